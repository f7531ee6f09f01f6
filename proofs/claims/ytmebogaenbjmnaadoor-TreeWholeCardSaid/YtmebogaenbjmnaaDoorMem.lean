/- Slices that read as lists, appends onto rows of the call's own, bytes made into strings, copies. Nothing of the dump. -/
import Derived.Test.YtmebogaenbjmnaaDoorBase
import Derived.Maps.AppendAt
import Derived.Laws.BytesArg
import Derived.WalkSpells
namespace Go.Proofs.YtmebogaenbjmnaaDoor
open Go.RowKit
theorem add_lit (b o j : Nat) : (⟨b, o, none⟩ : Addr).add j = ⟨b, o + j, none⟩ := by
  unfold Addr.add; split <;> simp_all
/-- A slice's address holds these cells, one behind the other. -/
def Sl (w : World) (A : Option Addr) (cs : List Value) : Prop :=
  cs ≠ [] → ∃ b o, A = some ⟨b, o, none⟩ ∧ ∀ j u, cs[j]? = some u → w.cell? ⟨b, o + j, none⟩ = some u
section
variable {w w' : World} {A : Option Addr} {cs : List Value}
theorem Sl.nil : Sl w A [] := fun h => absurd rfl h
theorem Sl.get (h : Sl w A cs) {j : Nat} (hj : j < cs.length) : ∃ b o, A = some ⟨b, o, none⟩ ∧ b < w.heap.size ∧ ∀ j u, cs[j]? = some u → w.cell? ⟨b, o + j, none⟩ = some u := by
  obtain ⟨b, o, e, hc⟩ := h (by rintro rfl; simp at hj)
  exact ⟨b, o, e, block_lt_of_cell (hc j _ (List.getElem?_eq_getElem hj)), hc⟩
theorem Sl.keep (h : Sl w A cs) (hk : ∀ b o, b < w.heap.size → w'.cell? ⟨b, o, none⟩ = w.cell? ⟨b, o, none⟩) : Sl w' A cs := fun hn => by
  obtain ⟨b, o, e, hlt, hc⟩ := h.get (j := 0) (List.length_pos_iff.2 hn)
  exact ⟨b, o, e, fun j u hu => (hk _ _ hlt).trans (hc j u hu)⟩
theorem Sl.below (h : Sl w A cs) (hb : Below w.heap.size w w') : Sl w' A cs := h.keep fun b o hlt => hb.cell (p := ⟨b, o, none⟩) hlt
theorem Sl.drew (h : Sl w A cs) : Sl w.drew A cs := h
theorem Sl.drewN (h : Sl w A cs) (n : Nat) : Sl (w.drewN n) A cs := h
theorem Sl.alloc (h : Sl w A cs) (o : Obj) : Sl (w.alloc o) A cs := h.below ((Below.refl _ _).alloc (Nat.le_refl _) o)
theorem Sl.of_own {base n c : Nat} {e : TypeId} (h : w.ownsRow base e 1 (.slice A n c) n cs) : Sl w A cs := fun hn => by
  rcases h.2 with ⟨hv, hz⟩ | ⟨g, cap, cur, hv, _, hh, _, _, _, ht⟩
  · have := h.1; subst hz; simp at this; exact absurd this hn
  · simp at hv
    obtain ⟨rfl, _⟩ := hv
    refine ⟨g, 0, rfl, fun j u hu => ?_⟩
    have := h.cells (g := g) rfl j u hu
    rwa [add_lit] at this
theorem Sl.of_at {b : Nat} {t : TypeId} {ds : List Value} (h : At w b t ds) (o n : Nat) : Sl w (some ⟨b, o, none⟩) ((ds.drop o).take n) := fun _ => by
  refine ⟨b, o, rfl, fun j u hu => ?_⟩
  rw [h.cell]
  rw [List.getElem?_take] at hu
  split at hu
  · rw [List.getElem?_drop] at hu; exact hu
  · cases hu
theorem Sl.of_at_all {b : Nat} {t : TypeId} {ds : List Value} (h : At w b t ds) : Sl w (some ⟨b, 0, none⟩) ds := fun _ => by
  refine ⟨b, 0, rfl, fun j u hu => ?_⟩
  rw [h.cell]; simpa using hu
/-- 's[k:]': at its very end the address stays. -/
theorem Sl.cut (h : Sl w A cs) (k cap : Nat) (hc : cs.length ≤ cap) : Sl w (if cap = k then A else A.map (·.add k)) (cs.drop k) := fun hn => by
  have hk : k < cs.length := by
    rcases Nat.lt_or_ge k cs.length with h1 | h1
    · exact h1
    · exact absurd (List.drop_eq_nil_of_le h1) hn
  obtain ⟨b, o, rfl, _, hcell⟩ := h.get hk
  rw [if_neg (by omega)]
  refine ⟨b, o + k, by simp [add_lit], fun j u hu => ?_⟩
  rw [List.getElem?_drop] at hu
  rw [Nat.add_assoc]; exact hcell _ u hu
theorem Sl.take (h : Sl w A cs) (k : Nat) : Sl w A (cs.take k) := fun hn => by
  obtain ⟨b, o, e, hc⟩ := h (by rintro rfl; simp at hn)
  refine ⟨b, o, e, fun j u hu => hc j u ?_⟩
  rw [List.getElem?_take] at hu; split at hu
  · exact hu
  · cases hu
/-- The cell at an index, in the walk's own spelling. -/
theorem Sl.at_ (h : Sl w A cs) {k : Nat} (hk : k < cs.length) : ∃ b o, A = some ⟨b, o, none⟩ ∧ b < w.heap.size ∧ w.cell? ⟨b, o + k, none⟩ = some cs[k] := by
  obtain ⟨b, o, e, hlt, hc⟩ := h.get hk
  exact ⟨b, o, e, hlt, hc k _ (List.getElem?_eq_getElem hk)⟩
end
/-- The type of a slice and of its elements, each of one cell. -/
structure ElemTy (P : Program) (t e : TypeId) (z : Value) (bytes : Nat) : Prop where
  ht : P.underlying t = some (.slice e)
  info : ∃ i, P.info? e = some i ∧ i.zero = some z ∧ i.size = 1 ∧ i.bytes = bytes
  one : z.cells.size = 1
  pos : 0 < bytes
section
variable {P : Program}
theorem run_app {t ty e : TypeId} {z : Value} {by_ : Nat} (E : ElemTy P t e z by_) (w : World) (base : Nat) (v : Value) (n : Nat) (xs : List Value) (hown : w.ownsRow base e 1 v n xs)
    (A : Option Addr) (m c : Nat) (news : List Value) (hl : news.length = m) (hsl : Sl w A news) (h1 : ∀ u ∈ news, u.oneCell' = true)
    (hb : (n + m) * by_ ≤ 140737488355328) (hbase : base ≤ w.heap.size) :
    ∃ v' w', (Builtin.append_ #[t, t] ty #[v, .slice A m c]).run P w = .ok v' w' ∧ w'.ownsRow base e 1 v' (n + m) (xs ++ news) ∧ w.grownBy w' v.ownBlock ∧
      (v'.ownBlock = v.ownBlock ∨ v'.ownBlock = some w.heap.size) := by
  obtain ⟨i, hi, hz, hs, hby⟩ := E.info
  have h63 : n + m ≤ maxLen := by
    have := E.pos
    have h2 : n + m ≤ (n + m) * by_ := Nat.le_mul_of_pos_right _ this
    simp only [maxLen]; omega
  rcases A with _ | ad
  · have hm : news = [] := by
      rcases Classical.em (news = []) with h | h
      · exact h
      · obtain ⟨b, o, e, _⟩ := hsl h; cases e
    subst hm
    simp at hl
    subst hl
    refine ⟨v, w, ?_, by simpa using hown, ⟨rfl, rfl, rfl, Nat.le_refl _, fun _ _ _ => rfl⟩, .inl rfl⟩
    rcases hown.2 with ⟨rfl, rfl⟩ | ⟨g, cap, cur, rfl, _, _, hnc, _⟩
    · simp [Builtin.append_, run_underlying E.ht, sizeOf, typeInfo, hi, Builtin.lenOf, Builtin.firstCells]
    · simp [Builtin.append_, run_underlying E.ht, sizeOf, typeInfo, hi, Builtin.lenOf, Builtin.firstCells, hnc, storeCells]
  · have hnews : ∀ j u, news[j]? = some u → w.cell? (ad.add j) = some u := by
      intro j u hu
      obtain ⟨b, o, e, hc⟩ := hsl (by rintro rfl; simp at hu)
      cases e
      rw [add_lit]; exact hc j u hu
    obtain ⟨v', w', hrun, h2, h3, _, h5⟩ := run_append_own_at (P := P) w base t ty e i z 1 by_ E.ht hi hz hs hby E.one (by omega) v n xs hown ad m c news (by omega) hnews h1 h63 hb hbase
    exact ⟨v', w', hrun, h2, h3, h5⟩
theorem wp_app {o : Oper} {a : Act} {w : World} {K : Act → World → Prop} {Q : Exit → Act → World → Prop} (s x : Operand) (t : TypeId)
    (ho : o.op = .call { callee := .builtin .append, args := #[s, x], argTypes := #[t, t] }) {e : TypeId} {z : Value} {by_ : Nat} (E : ElemTy P t e z by_) (base : Nat) (v : Value) (n : Nat) (xs : List Value)
    (hs : a.eval s = v) (hown : w.ownsRow base e 1 v n xs) (A : Option Addr) (m c : Nat) (news : List Value) (hx : a.eval x = .slice A m c) (hl : news.length = m) (hsl : Sl w A news) (h1 : ∀ u ∈ news, u.oneCell' = true)
    (hb : (n + m) * by_ ≤ 140737488355328) (hbase : base ≤ w.heap.size)
    (h : ∀ v' w', w'.ownsRow base e 1 v' (n + m) (xs ++ news) → w.grownBy w' v.ownBlock → (v'.ownBlock = v.ownBlock ∨ v'.ownBlock = some w.heap.size) → K (a.put o.dst v') w') : o.wp P a w K Q := by
  obtain ⟨v', w', hrun, h2, h3, h4⟩ := run_app (ty := o.type) E w base v n xs hown A m c news hl hsl h1 hb hbase
  unfold Oper.wp execOp
  simp only [ho, resolve, invoke, builtin, Sem.run_bind, Sem.run_pure, Result.andThen_ok, List.map_toArray, List.map_cons, List.map_nil, hs, hx, hrun]
  exact h v' w' h2 h3 h4
theorem wpList_app {ops : Array Oper} {rest : List Oper} {o : Oper} {a : Act} {w : World} {Q : Exit → Act → World → Prop} (hgd : o.guard = none) (s x : Operand) (t : TypeId)
    (ho : o.op = .call { callee := .builtin .append, args := #[s, x], argTypes := #[t, t] }) {e : TypeId} {z : Value} {by_ : Nat} (E : ElemTy P t e z by_) (base : Nat) (v : Value) (n : Nat) (xs : List Value)
    (hs : a.eval s = v) (hown : w.ownsRow base e 1 v n xs) (A : Option Addr) (m c : Nat) (news : List Value) (hx : a.eval x = .slice A m c) (hl : news.length = m) (hsl : Sl w A news) (h1 : ∀ u ∈ news, u.oneCell' = true)
    (hb : (n + m) * by_ ≤ 140737488355328) (hbase : base ≤ w.heap.size)
    (h : ∀ v' w', w'.ownsRow base e 1 v' (n + m) (xs ++ news) → w.grownBy w' v.ownBlock → (v'.ownBlock = v.ownBlock ∨ v'.ownBlock = some w.heap.size) → wpList P ops Q rest (a.put o.dst v') w') : wpList P ops Q (o :: rest) a w :=
  wpList_plain hgd fun _ hK => wp_app s x t ho E base v n xs hs hown A m c news hx hl hsl h1 hb hbase fun v' w' h2 h3 h4 => hK _ _ (h v' w' h2 h3 h4)
theorem step_app {ops : Array Oper} {o : Oper} {a : Act} {w : World} {K : Act → World → Prop} {Q : Exit → Act → World → Prop} {E' : Prop} (hgd : o.guard = none) (s x : Operand) (t : TypeId)
    (ho : o.op = .call { callee := .builtin .append, args := #[s, x], argTypes := #[t, t] }) {e : TypeId} {z : Value} {by_ : Nat} (E : ElemTy P t e z by_) (base : Nat) (v : Value) (n : Nat) (xs : List Value)
    (hs : a.eval s = v) (hown : w.ownsRow base e 1 v n xs) (A : Option Addr) (m c : Nat) (news : List Value) (hx : a.eval x = .slice A m c) (hl : news.length = m) (hsl : Sl w A news) (h1 : ∀ u ∈ news, u.oneCell' = true)
    (hb : (n + m) * by_ ≤ 140737488355328) (hbase : base ≤ w.heap.size)
    (h : ∀ v' w', w'.ownsRow base e 1 v' (n + m) (xs ++ news) → w.grownBy w' v.ownBlock → (v'.ownBlock = v.ownBlock ∨ v'.ownBlock = some w.heap.size) → K (a.put o.dst v') w') :
    if Region.wanted o (yielded ops a.tmps) = true then Oper.wp P o a w K Q else E' := by
  have hw : Region.wanted o (yielded ops a.tmps) = true := by simp [Region.wanted, hgd]
  rw [if_pos hw]
  exact wp_app s x t ho E base v n xs hs hown A m c news hx hl hsl h1 hb hbase h
/-- The bytes of a slice made into a string. -/
theorem run_str (w : World) (src dst e : TypeId) (hs : P.underlying src = some (.slice e)) (he : P.underlying e = some (.int .u8)) (hd : P.underlying dst = some .string) (A : Option Addr) (l : List UInt8) (n c : Nat) (hn : l.length = n)
    (h : Sl w A (bcells l)) : (convert src dst (.slice A n c)).run P w = .ok (.string ⟨l.toArray⟩) w := by
  subst hn
  rcases A with _ | ad
  · have hm : l = [] := by
      rcases Classical.em (l = []) with h' | h'
      · exact h'
      · obtain ⟨b, o, e, _⟩ := h (by simpa [bcells] using h'); cases e
    subst hm
    exact run_convert_bytes_nil w src e hs he _ c dst hd
  · rcases Classical.em (l = []) with h' | h'
    · subst h'
      have hl : (loadCells ad 0).run P w = .ok (([] : List Int).map (Value.int .u8)).toArray w := by
        simpa using run_loadCells_list (P := P) w ad [] (fun j v hj => by simp at hj)
      rw [run_convert_bytes_string w src dst e _ _ c hs he hd, List.length_nil, run_bytesToString w _ 0 c [] hl]
      rfl
    · obtain ⟨b, o, e, hc⟩ := h (by simpa [bcells] using h')
      cases e
      have := run_convert_bytes_arg (P := P) w src e hs he b o l.length c (l.map ub) (by simp) (fun i hi => by
        rw [hc i _ (bcells_get l i hi)]; simp [hi]) dst hd
      rw [this]
      congr 2
      unfold strOfNums
      congr 2
      rw [List.map_map]
      conv => rhs; rw [← List.map_id l]
      apply List.map_congr_left
      intro x _
      simp [ub]
/-- What a copy leaves in a row. -/
def spl (cur : List Value) (o : Nat) (cs : List Value) : List Value := cur.take o ++ cs ++ cur.drop (o + cs.length)
theorem spl_len (cur : List Value) (o : Nat) (cs : List Value) (h : o + cs.length ≤ cur.length) : (spl cur o cs).length = cur.length := by
  simp [spl]; omega
theorem run_cp (w : World) (dT sT ty elem : TypeId) (hu : P.underlying dT = some (.slice elem)) (hs : (P.info? elem).map (·.size) = some 1) (g o dLen dCap : Nat) (t : TypeId) (cur : List Value) (hg : At w g t cur)
    (A : Option Addr) (n c : Nat) (cs : List Value) (hn : cs.length = n) (hsl : Sl w A cs) (hfit : o + min n dLen ≤ cur.length) (h1 : ∀ v ∈ cs, v.oneCell' = true) :
    (Builtin.copy_ #[dT, sT] ty #[.slice (some ⟨g, o, none⟩) dLen dCap, .slice A n c]).run P w = .ok (.int .i64 (min n dLen : Nat)) (w.setRow g (spl cur o (cs.take (min n dLen))).toArray) := by
  subst hn
  have hlen : (cs.take (min cs.length dLen)).length = min cs.length dLen := by simp
  rcases A with _ | ad
  · have hm : cs = [] := by
      rcases Classical.em (cs = []) with h | h
      · exact h
      · obtain ⟨b, o, e, _⟩ := hsl h; cases e
    subst hm
    have e1 : w.setRow g (spl cur o ([].take (min ([] : List Value).length dLen))).toArray = w := by
      have := setRow_self w g cur.toArray t (0, 0) hg
      simpa [spl] using this
    rw [e1]
    cases hq : P.info? elem with
    | none => simp [hq] at hs
    | some i => simp [Builtin.copy_, run_underlying hu, Builtin.lenOf, Builtin.firstCells, sizeOf, typeInfo, hq, storeCells, goInt]
  · have := run_copy_row (P := P) w dT sT ty elem g o dLen dCap ad cs.length c cur.toArray t (cs.take (min cs.length dLen)) hu hs hg (by rw [hlen])
      (by
        intro j u hu
        obtain ⟨b, o, e, hc⟩ := hsl (by rintro rfl; simp at hu)
        cases e
        rw [add_lit]
        rw [List.getElem?_take] at hu
        split at hu
        · exact hc j u hu
        · cases hu) (by rw [hlen]; simpa using hfit) (fun v hv => h1 v (List.mem_of_mem_take hv))
    rw [this, hlen]
    simp [goInt, spl, hlen]
theorem wpList_cp {ops : Array Oper} {rest : List Oper} {op : Oper} {a : Act} {w : World} {Q : Exit → Act → World → Prop} (hgd : op.guard = none) (d s : Operand) (dT sT elem : TypeId)
    (ho : op.op = .call { callee := .builtin .copy, args := #[d, s], argTypes := #[dT, sT] }) (hu : P.underlying dT = some (.slice elem)) (hs : (P.info? elem).map (·.size) = some 1)
    (g o dLen dCap : Nat) (hd : a.eval d = .slice (some ⟨g, o, none⟩) dLen dCap) (t : TypeId) (cur : List Value) (hg : At w g t cur)
    (A : Option Addr) (n c : Nat) (hx : a.eval s = .slice A n c) (cs : List Value) (hn : cs.length = n) (hsl : Sl w A cs) (hfit : o + min n dLen ≤ cur.length) (h1 : ∀ v ∈ cs, v.oneCell' = true)
    (h : wpList P ops Q rest (a.put op.dst (.int .i64 (min n dLen : Nat))) (w.setRow g (spl cur o (cs.take (min n dLen))).toArray)) : wpList P ops Q (op :: rest) a w :=
  wpList_plain hgd fun K hK => by
    unfold Oper.wp execOp
    simp only [ho, resolve, invoke, builtin, Sem.run_bind, Sem.run_pure, Result.andThen_ok, List.map_toArray, List.map_cons, List.map_nil, hd, hx, run_cp w dT sT op.type elem hu hs g o dLen dCap t cur hg A n c cs hn hsl hfit h1]
    exact hK _ _ h
theorem step_cp {ops : Array Oper} {op : Oper} {a : Act} {w : World} {K : Act → World → Prop} {Q : Exit → Act → World → Prop} {E' : Prop} (hgd : op.guard = none) (d s : Operand) (dT sT elem : TypeId)
    (ho : op.op = .call { callee := .builtin .copy, args := #[d, s], argTypes := #[dT, sT] }) (hu : P.underlying dT = some (.slice elem)) (hs : (P.info? elem).map (·.size) = some 1)
    (g o dLen dCap : Nat) (hd : a.eval d = .slice (some ⟨g, o, none⟩) dLen dCap) (t : TypeId) (cur : List Value) (hg : At w g t cur)
    (A : Option Addr) (n c : Nat) (hx : a.eval s = .slice A n c) (cs : List Value) (hn : cs.length = n) (hsl : Sl w A cs) (hfit : o + min n dLen ≤ cur.length) (h1 : ∀ v ∈ cs, v.oneCell' = true)
    (h : K (a.put op.dst (.int .i64 (min n dLen : Nat))) (w.setRow g (spl cur o (cs.take (min n dLen))).toArray)) :
    if Region.wanted op (yielded ops a.tmps) = true then Oper.wp P op a w K Q else E' := by
  have hw : Region.wanted op (yielded ops a.tmps) = true := by simp [Region.wanted, hgd]
  rw [if_pos hw]
  unfold Oper.wp execOp
  simp only [ho, resolve, invoke, builtin, Sem.run_bind, Sem.run_pure, Result.andThen_ok, List.map_toArray, List.map_cons, List.map_nil, hd, hx, run_cp w dT sT op.type elem hu hs g o dLen dCap t cur hg A n c cs hn hsl hfit h1]
  exact h
/-- 'make([]T, 0, n)'. -/
theorem wpList_mk {ops : Array Oper} {rest : List Oper} {o : Oper} {a : Act} {w : World} {Q : Exit → Act → World → Prop} (hg : o.guard = none) (l c : Operand) {t : TypeId} (hop : o.op = Op.makeSlice t l c)
    {e : TypeId} {z : Value} {by_ : Nat} (E : ElemTy P t e z by_) (base : Nat) (kl kc : IntKind) (C : Int) (n : Nat) (hl : a.eval l = .int kl 0) (hc : a.eval c = .int kc C) (hC : C = (n : Int))
    (hb : by_ * n ≤ 140737488355328) (hbase : base ≤ w.heap.size)
    (hK : ∀ w', w'.ownsRow base e 1 (.slice (some ⟨w.heap.size, 0, none⟩) 0 n) 0 [] → w.grownBy w' none → wpList P ops Q rest (a.put o.dst (.slice (some ⟨w.heap.size, 0, none⟩) 0 n)) w') :
    wpList P ops Q (o :: rest) a w := by
  obtain ⟨i, hi, hz, hs, hby⟩ := E.info
  have hn : n ≤ maxLen := by
    have h2 : n ≤ by_ * n := Nat.le_mul_of_pos_left _ E.pos
    simp only [maxLen]; omega
  exact wpList_make_own w hg l c t hop base e i z 1 E.ht hi hz hs kl kc C n hl hc hC (by rw [hby]; omega) hn hbase hK
/-- An element of an array's value, of one cell. -/
theorem run_idx (w : World) (T elem : TypeId) (len : Nat) (ik jk : IntKind) (hT : P.underlying T = some (.array len elem)) (hu : P.underlying elem = some (.int jk)) (hs : (P.info? elem).map (·.size) = some 1)
    (cs : Array Value) (k : Nat) (v : Value) (hk : k < len) (hc : cs[k]? = some v) : (Instr.index T (.agg cs) (.int ik (k : Int))).run P w = .ok v w := by
  cases hq : P.info? elem with
  | none => simp [hq] at hs
  | some i =>
    have hi : i.size = 1 := by simpa [hq] using hs
    simp [Instr.index, asIntOf, run_underlying hT, hk, sizeOf, typeInfo, hq, hi, part, isAgg, run_underlying hu, hc]
theorem bcells_app (a b : List UInt8) : bcells a ++ bcells b = bcells (a ++ b) := by simp [bcells]
theorem wcells_app (a b : List UInt32) : wcells a ++ wcells b = wcells (a ++ b) := by simp [wcells]
/-- Behind an append to a row of the call's own. -/
theorem below_app {B base n : Nat} {e : TypeId} {w0 w w' : World} {v : Value} {xs : List Value} (h : Below B w0 w) (hg : w.grownBy w' v.ownBlock) (ho : w.ownsRow base e 1 v n xs) (hB : B ≤ base) (hs : B ≤ w.heap.size) : Below B w0 w' :=
  h.grown hg hs (fun k hk => Nat.le_trans hB (ho.lt k hk).1)
/-- An owned row's value is a slice that reads as its cells, in a block of the call's own. -/
theorem own_slice {w : World} {base n : Nat} {e : TypeId} {v : Value} {xs : List Value} (h : w.ownsRow base e 1 v n xs) : ∃ A c, v = .slice A n c ∧ Sl w A xs ∧ n ≤ c ∧ xs.length = n ∧ c ≤ maxLen ∧ (∀ b o s, A = some ⟨b, o, s⟩ → base ≤ b) := by
  have hl : xs.length = n := by simpa using h.1
  rcases h.2 with ⟨rfl, hz⟩ | ⟨g, cap, cur, rfl, hb, _, hnc, hcm, _⟩
  · subst hz
    obtain rfl : xs = [] := List.eq_nil_of_length_eq_zero hl
    exact ⟨none, 0, rfl, Sl.nil, Nat.le_refl _, rfl, by simp [maxLen], fun b o s h => by cases h⟩
  · exact ⟨_, cap, rfl, Sl.of_own h, hnc, hl, hcm, fun b o s h => by cases h; exact hb⟩
theorem Sl.from_ {w w' : World} {A : Option Addr} {cs : List Value} {base : Nat} (h : Sl w A cs) (hA : ∀ b o s, A = some ⟨b, o, s⟩ → base ≤ b) (hk : ∀ b o, base ≤ b → w'.cell? ⟨b, o, none⟩ = w.cell? ⟨b, o, none⟩) : Sl w' A cs := fun hn => by
  obtain ⟨b, o, e, hc⟩ := h hn
  exact ⟨b, o, e, fun j u hu => (hk _ _ (hA _ _ _ e)).trans (hc j u hu)⟩
theorem cell_setRow_ne (w : World) (g b o : Nat) (cs : Array Value) (h : b ≠ g) : (w.setRow g cs).cell? ⟨b, o, none⟩ = w.cell? ⟨b, o, none⟩ := World.cell?_of_block (w := w) (a := ⟨b, o, none⟩) (setRow_other w g b cs h)
theorem cell_setCell_ne (w : World) (g k b o : Nat) (v : Value) (h : b ≠ g) : (w.setCell ⟨g, k, none⟩ v).cell? ⟨b, o, none⟩ = w.cell? ⟨b, o, none⟩ := World.cell?_of_block (w := w) (a := ⟨b, o, none⟩) (Below.heap_setCell w _ v b h)
/-- The type of a struct or an array, of n cells. -/
def isRow : TypeDesc → Bool | .struct _ => true | .array _ _ => true | _ => false
def AggTy (P : Program) (ty : TypeId) (n : Nat) : Prop := (P.underlying ty).map isRow = some true ∧ (P.info? ty).map (·.size) = some n
theorem run_loadA {ty : TypeId} {n : Nat} (T : AggTy P ty n) (w : World) (g o : Nat) (t : TypeId) (cur : List Value) (hg : At w g t cur) (vs : List Value) (hl : vs.length = n) (hv : ∀ j, j < vs.length → cur[o + j]? = vs[j]?) :
    (loadVar ty ⟨g, o, none⟩).run P w = .ok (.agg vs.toArray) w := by
  obtain ⟨h1, hi⟩ := T
  have hl' : (loadCells ⟨g, o, none⟩ vs.length).run P w = .ok vs.toArray w :=
    run_loadCells_list (P := P) w ⟨g, o, none⟩ vs (fun j v hj => by
      have hjl : j < vs.length := (List.getElem?_eq_some_iff.1 hj).1
      rw [add_lit, hg.cell, hv j hjl, hj])
  cases hu : P.underlying ty with
  | none => simp [hu] at h1
  | some d =>
    cases hq : P.info? ty with
    | none => simp [hq] at hi
    | some i =>
      have hs : i.size = vs.length := by rw [hl]; simpa [hq] using hi
      have hagg : (isAgg ty).run P w = .ok true w := by
        unfold isAgg
        rw [Sem.run_bind, run_underlying hu w]
        cases d <;> simp_all [isRow]
      simp [loadVar, Sem.run_bind, hagg, sizeOf, typeInfo, hq, hs, hl']
/-- An aggregate read out of a block that is known whole, from cell o on. -/
theorem wpList_loadA {ops : Array Oper} {rest : List Oper} {op : Oper} {a : Act} {w : World} {Q : Exit → Act → World → Prop} (hgd : op.guard = none) (ty : TypeId) (x : Operand) (ho : op.op = .load ty x)
    {n : Nat} (T : AggTy P ty n) (g o : Nat) (hx : a.eval x = .pointer (some ⟨g, o, none⟩)) (t : TypeId) (cur : List Value) (hg : At w g t cur) (vs : List Value) (hl : vs.length = n) (hv : ∀ j, j < vs.length → cur[o + j]? = vs[j]?)
    (h : wpList P ops Q rest (a.put op.dst (.agg vs.toArray)) w) : wpList P ops Q (op :: rest) a w := by
  refine wpList_plain hgd fun K hK => ?_
  unfold Oper.wp execOp
  simp only [ho, hx, Instr.loadAt, Instr.sureAddr, Sem.run_bind, Sem.run_pure, Result.andThen_ok, run_loadA T w g o t cur hg vs hl hv]
  exact hK _ _ h
theorem all_at (vs : List Value) : ∀ j, j < vs.length → vs[0 + j]? = vs[j]? := fun j _ => by rw [Nat.zero_add]
theorem results_cellA {fn : Func} {p : Tmp} {ty : TypeId} (h : fn.results = #[.cell p ty]) {n : Nat} (T : AggTy P ty n) (tmps : Array Value) (w : World) (g : Nat) (t : TypeId) (cs : List Value)
    (hp : tmps.getD p undef = .pointer (some ⟨g, 0, none⟩)) (hg : At w g t cs) (hl : cs.length = n) : (results fn tmps).run P w = .ok (.agg cs.toArray) w := by
  have hp' : tmps[p]?.getD undef = .pointer (some ⟨g, 0, none⟩) := by simpa using hp
  simp [results, h, hp', asAddr, run_loadA T w g 0 t cs hg cs hl (all_at cs)]
/-- How many elements a slice's value has. -/
def slLen : Value → Nat | .slice _ n _ => n | _ => 0
theorem spl_bytes (a : List UInt8) (o : Nat) (b : List UInt8) : spl (bcells a) o (bcells b) = bcells (a.take o ++ b ++ a.drop (o + b.length)) := by
  simp [spl, bcells]
theorem bcells_take (a : List UInt8) (n : Nat) : (bcells a).take n = bcells (a.take n) := by simp [bcells]
theorem bcells_drop (a : List UInt8) (n : Nat) : (bcells a).drop n = bcells (a.drop n) := by simp [bcells]
/-- 64 bytes 0. -/
def zer : List UInt8 := List.replicate 64 0
theorem zer_len : zer.length = 64 := rfl
theorem ElemTy.size {t e : TypeId} {z : Value} {by_ : Nat} (E : ElemTy P t e z by_) (w : World) : (sizeOf e).run P w = .ok 1 w := by
  obtain ⟨i, hi, _, hs, _⟩ := E.info
  simp [sizeOf, typeInfo, hi, hs]
/-- 's[k:]' and 's[l:h]' of a slice. -/
theorem run_from {t e : TypeId} {z : Value} {by_ : Nat} (E : ElemTy P t e z by_) (w : World) (A : Option Addr) (n c k : Nat) (ik : IntKind) (hk : k ≤ n) :
    (Instr.slice t (.slice A n c) (some (.int ik (k : Int))) none none).run P w = .ok (.slice (if c = k then A else A.map (·.add k)) (n - k) (c - k)) w := by
  simp [Instr.slice, run_underlying E.ht, Instr.sliceBounds, E.size, run_sliceBound w ik (k : Int) n _ (by omega) (by omega)]
theorem run_part {t e : TypeId} {z : Value} {by_ : Nat} (E : ElemTy P t e z by_) (w : World) (A : Option Addr) (n c l h : Nat) (ik jk : IntKind) (hl : l ≤ h) (hh : h ≤ c) :
    (Instr.slice t (.slice A n c) (some (.int ik (l : Int))) (some (.int jk (h : Int))) none).run P w = .ok (.slice (if c = l then A else A.map (·.add l)) (h - l) (c - l)) w := by
  simp [Instr.slice, run_underlying E.ht, Instr.sliceBounds, E.size, run_sliceBound w jk (h : Int) c _ (by omega) (by omega), run_sliceBound w ik (l : Int) h _ (by omega) (by omega)]
/-- A whole aggregate stored into a part of a block that is known whole. -/
theorem wpList_storeA {ops : Array Oper} {rest : List Oper} {op : Oper} {a : Act} {w : World} {Q : Exit → Act → World → Prop} (hgd : op.guard = none) (hdst : op.dst = none) (ty : TypeId) (x y : Operand) (ho : op.op = .store ty x y)
    {n : Nat} (T : AggTy P ty n) (g k : Nat) (hx : a.eval x = .pointer (some ⟨g, k, none⟩)) (vs : List Value) (hy : a.eval y = .agg vs.toArray) (t : TypeId) (cur : List Value) (hg : At w g t cur)
    (hl : vs.length = n) (hfit : k + n ≤ cur.length) (h1 : ∀ v ∈ vs, v.oneCell' = true)
    (h : wpList P ops Q rest a (w.setRow g (spl cur k vs).toArray)) : wpList P ops Q (op :: rest) a w :=
  wpList_store_row hgd ty x y ho g k hx vs hy t cur hg (by rw [hl]; exact T.2) (by omega) h1 (by simpa [hdst, Act.put, spl] using h)
/-- 'a[k:]' and 'a[:k]' of an array in memory. -/
theorem run_arr_from {T e : TypeId} {N : Nat} (hT : P.underlying T = some (.array N e)) (hs : (P.info? e).map (·.size) = some 1) (w : World) (g o k : Nat) (ik : IntKind) (hk : k < N) :
    (Instr.sliceAt T (.pointer (some ⟨g, o, none⟩)) (some (.int ik (k : Int))) none none).run P w = .ok (.slice (some ⟨g, o + k, none⟩) (N - k) (N - k)) w := by
  cases hq : P.info? e with
  | none => simp [hq] at hs
  | some i =>
    have hi : i.size = 1 := by simpa [hq] using hs
    simp [Instr.sliceAt, run_underlying hT, Instr.sliceBounds, sizeOf, typeInfo, hq, hi, Instr.sureAddr, run_sliceBound w ik (k : Int) N _ (by omega) (by omega), show ¬ N = k by omega, add_lit]
theorem run_arr_to {T e : TypeId} {N : Nat} (hT : P.underlying T = some (.array N e)) (hs : (P.info? e).map (·.size) = some 1) (w : World) (g o k : Nat) (ik : IntKind) (hk : k ≤ N) (_hN : 0 < N) :
    (Instr.sliceAt T (.pointer (some ⟨g, o, none⟩)) none (some (.int ik (k : Int))) none).run P w = .ok (.slice (some ⟨g, o, none⟩) k N) w := by
  cases hq : P.info? e with
  | none => simp [hq] at hs
  | some i =>
    have hi : i.size = 1 := by simpa [hq] using hs
    simp [Instr.sliceAt, run_underlying hT, Instr.sliceBounds, sizeOf, typeInfo, hq, Instr.sureAddr, run_sliceBound w ik (k : Int) N _ (by omega) (by omega), add_lit]
/-- A byte of a string. -/
theorem run_stri {T : TypeId} (hT : P.underlying T = some .string) (w : World) (s : ByteArray) (k : Nat) (ik : IntKind) (hk : k < s.size) (z : Int) (hz : z = (k : Int)) :
    (Instr.index T (.string s) (.int ik z)).run P w = .ok (.int .u8 (ub (s.data.toList.getD k 0))) w := by
  subst hz
  have e1 : s[k]? = some (s.data.toList.getD k 0) := by
    have hk' : k < s.data.size := hk
    simp [hk, List.getD]
    rfl
  simp [Instr.index, asIntOf, run_underlying hT, e1, ub]
theorem own_drewN {w : World} {base n size : Nat} {e : TypeId} {v : Value} {xs : List Value} (h : w.ownsRow base e size v n xs) (k : Nat) : (w.drewN k).ownsRow base e size v n xs := h
end
end Go.Proofs.YtmebogaenbjmnaaDoor
