/- Rows whose elements have several cells: their cells, appends. Nothing of the dump. -/
import Derived.Test.YtpnnebnjkinndaaDoorMem
namespace Go.Proofs.YtpnnebnjkinndaaDoor
open Go.RowKit
/-- The type of a slice and of its elements, each of so many cells. -/
structure ElemK (P : Program) (t e : TypeId) (z : Value) (size bytes : Nat) : Prop where
  ht : P.underlying t = some (.slice e)
  info : ∃ i, P.info? e = some i ∧ i.zero = some z ∧ i.size = size ∧ i.bytes = bytes
  one : z.cells.size = size
  pos : 0 < size
  posb : 0 < bytes
def kcells {α : Type} (enc : α → List Value) (l : List α) : List Value := l.flatMap enc
section
variable {α : Type} {enc : α → List Value} {k : Nat}
theorem kcells_len (hk : ∀ x, (enc x).length = k) : ∀ l : List α, (kcells enc l).length = l.length * k
  | [] => by simp [kcells]
  | x :: l => by
    have e : kcells enc (x :: l) = enc x ++ kcells enc l := rfl
    rw [e, List.length_append, hk, kcells_len hk l, List.length_cons, Nat.add_mul]; omega
theorem kcells_get (hk : ∀ x, (enc x).length = k) : ∀ (l : List α) (i r : Nat) (hi : i < l.length), r < k → (kcells enc l)[i * k + r]? = (enc l[i])[r]?
  | x :: l, 0, r, _, hr => by
    have e : kcells enc (x :: l) = enc x ++ kcells enc l := rfl
    rw [e, Nat.zero_mul, Nat.zero_add, List.getElem?_append_left (by rw [hk]; exact hr)]
    rfl
  | x :: l, i + 1, r, hi, hr => by
    have e : kcells enc (x :: l) = enc x ++ kcells enc l := rfl
    have h1 : (i + 1) * k = k + i * k := by rw [Nat.add_mul]; omega
    rw [e, List.getElem?_append_right (by rw [hk, h1]; omega), hk, show (i + 1) * k + r - k = i * k + r by rw [h1]; omega, kcells_get hk l i r (by simpa using hi) hr]
    rfl
  | [], i, r, hi, _ => by simp at hi
theorem kcells_app (a b : List α) : kcells enc a ++ kcells enc b = kcells enc (a ++ b) := by simp [kcells]
theorem kcells_one (h1 : ∀ x, ∀ v ∈ enc x, v.oneCell' = true) (l : List α) : ∀ v ∈ kcells enc l, v.oneCell' = true := by
  intro v hv
  obtain ⟨x, _, hx⟩ := List.mem_flatMap.1 hv
  exact h1 x v hx
/-- A cell of an element, in the walk's own spelling. -/
theorem Sl.kget {w : World} {A : Option Addr} {l : List α} (hk : ∀ x, (enc x).length = k) (h : Sl w A (kcells enc l)) {i : Nat} (hi : i < l.length) (hk0 : 0 < k) :
    ∃ b o, A = some ⟨b, o, none⟩ ∧ b < w.heap.size ∧ ∀ r u, (enc l[i])[r]? = some u → w.cell? ⟨b, o + (i * k + r), none⟩ = some u := by
  have hlen := kcells_len hk l
  have hpos : 0 < (kcells enc l).length := by
    rw [hlen]
    exact Nat.mul_pos (by omega) hk0
  obtain ⟨b, o, e, hlt, hc⟩ := h.get hpos
  refine ⟨b, o, e, hlt, fun r u hu => hc _ _ ?_⟩
  have hr : r < k := by
    have := (List.getElem?_eq_some_iff.1 hu).1
    rwa [hk] at this
  rw [kcells_get hk l i r hi hr, hu]
end
section
variable {P : Program}
theorem run_appK {t ty e : TypeId} {z : Value} {size by_ : Nat} (E : ElemK P t e z size by_) (w : World) (base : Nat) (v : Value) (n : Nat) (xs : List Value) (hown : w.ownsRow base e size v n xs)
    (A : Option Addr) (m c : Nat) (news : List Value) (hl : news.length = m * size) (hsl : Sl w A news) (h1 : ∀ u ∈ news, u.oneCell' = true)
    (hb : (n + m) * by_ ≤ 140737488355328) (hbase : base ≤ w.heap.size) :
    ∃ v' w', (Builtin.append_ #[t, t] ty #[v, .slice A m c]).run P w = .ok v' w' ∧ w'.ownsRow base e size v' (n + m) (xs ++ news) ∧ w.grownBy w' v.ownBlock ∧
      (v'.ownBlock = v.ownBlock ∨ v'.ownBlock = some w.heap.size) := by
  obtain ⟨i, hi, hz, hs, hby⟩ := E.info
  have h63 : n + m ≤ maxLen := by
    have := E.posb
    have h2 : n + m ≤ (n + m) * by_ := Nat.le_mul_of_pos_right _ this
    simp only [maxLen]; omega
  rcases A with _ | ad
  · have hm : news = [] := by
      rcases Classical.em (news = []) with h | h
      · exact h
      · obtain ⟨b, o, e, _⟩ := hsl h; cases e
    subst hm
    have hm0 : m = 0 := by
      have h3 : m * size = 0 := by simpa using hl.symm
      rcases Nat.mul_eq_zero.1 h3 with h | h
      · exact h
      · have := E.pos; omega
    subst hm0
    refine ⟨v, w, ?_, by simpa using hown, ⟨rfl, rfl, rfl, Nat.le_refl _, fun _ _ _ => rfl⟩, .inl rfl⟩
    rcases hown.2 with ⟨rfl, rfl⟩ | ⟨g, cap, cur, rfl, _, _, hnc, _⟩
    · simp [Builtin.append_, run_underlying E.ht, sizeOf, typeInfo, hi, Builtin.lenOf, Builtin.firstCells]
    · simp [Builtin.append_, run_underlying E.ht, sizeOf, typeInfo, hi, Builtin.lenOf, Builtin.firstCells, hnc, storeCells]
  · have hnews : ∀ j u, news[j]? = some u → w.cell? (ad.add j) = some u := by
      intro j u hu
      obtain ⟨b, o, e, hc⟩ := hsl (by rintro rfl; simp at hu)
      cases e
      rw [add_lit]; exact hc j u hu
    obtain ⟨v', w', hrun, h2, h3, _, h5⟩ := run_append_own_at (P := P) w base t ty e i z size by_ E.ht hi hz hs hby E.one E.pos v n xs hown ad m c news hl hnews h1 h63 hb hbase
    exact ⟨v', w', hrun, h2, h3, h5⟩
theorem wp_appK {o : Oper} {a : Act} {w : World} {K : Act → World → Prop} {Q : Exit → Act → World → Prop} (s x : Operand) (t : TypeId)
    (ho : o.op = .call { callee := .builtin .append, args := #[s, x], argTypes := #[t, t] }) {e : TypeId} {z : Value} {size by_ : Nat} (E : ElemK P t e z size by_) (base : Nat) (v : Value) (n : Nat) (xs : List Value)
    (hs : a.eval s = v) (hown : w.ownsRow base e size v n xs) (A : Option Addr) (m c : Nat) (news : List Value) (hx : a.eval x = .slice A m c) (hl : news.length = m * size) (hsl : Sl w A news) (h1 : ∀ u ∈ news, u.oneCell' = true)
    (hb : (n + m) * by_ ≤ 140737488355328) (hbase : base ≤ w.heap.size)
    (h : ∀ v' w', w'.ownsRow base e size v' (n + m) (xs ++ news) → w.grownBy w' v.ownBlock → (v'.ownBlock = v.ownBlock ∨ v'.ownBlock = some w.heap.size) → K (a.put o.dst v') w') : o.wp P a w K Q := by
  obtain ⟨v', w', hrun, h2, h3, h4⟩ := run_appK (ty := o.type) E w base v n xs hown A m c news hl hsl h1 hb hbase
  unfold Oper.wp execOp
  simp only [ho, resolve, invoke, builtin, Sem.run_bind, Sem.run_pure, Result.andThen_ok, List.map_toArray, List.map_cons, List.map_nil, hs, hx, hrun]
  exact h v' w' h2 h3 h4
theorem wpList_appK {ops : Array Oper} {rest : List Oper} {o : Oper} {a : Act} {w : World} {Q : Exit → Act → World → Prop} (hgd : o.guard = none) (s x : Operand) (t : TypeId)
    (ho : o.op = .call { callee := .builtin .append, args := #[s, x], argTypes := #[t, t] }) {e : TypeId} {z : Value} {size by_ : Nat} (E : ElemK P t e z size by_) (base : Nat) (v : Value) (n : Nat) (xs : List Value)
    (hs : a.eval s = v) (hown : w.ownsRow base e size v n xs) (A : Option Addr) (m c : Nat) (news : List Value) (hx : a.eval x = .slice A m c) (hl : news.length = m * size) (hsl : Sl w A news) (h1 : ∀ u ∈ news, u.oneCell' = true)
    (hb : (n + m) * by_ ≤ 140737488355328) (hbase : base ≤ w.heap.size)
    (h : ∀ v' w', w'.ownsRow base e size v' (n + m) (xs ++ news) → w.grownBy w' v.ownBlock → (v'.ownBlock = v.ownBlock ∨ v'.ownBlock = some w.heap.size) → wpList P ops Q rest (a.put o.dst v') w') : wpList P ops Q (o :: rest) a w :=
  wpList_plain hgd fun _ hK => wp_appK s x t ho E base v n xs hs hown A m c news hx hl hsl h1 hb hbase fun v' w' h2 h3 h4 => hK _ _ (h v' w' h2 h3 h4)
theorem step_appK {ops : Array Oper} {o : Oper} {a : Act} {w : World} {K : Act → World → Prop} {Q : Exit → Act → World → Prop} {E' : Prop} (hgd : o.guard = none) (s x : Operand) (t : TypeId)
    (ho : o.op = .call { callee := .builtin .append, args := #[s, x], argTypes := #[t, t] }) {e : TypeId} {z : Value} {size by_ : Nat} (E : ElemK P t e z size by_) (base : Nat) (v : Value) (n : Nat) (xs : List Value)
    (hs : a.eval s = v) (hown : w.ownsRow base e size v n xs) (A : Option Addr) (m c : Nat) (news : List Value) (hx : a.eval x = .slice A m c) (hl : news.length = m * size) (hsl : Sl w A news) (h1 : ∀ u ∈ news, u.oneCell' = true)
    (hb : (n + m) * by_ ≤ 140737488355328) (hbase : base ≤ w.heap.size)
    (h : ∀ v' w', w'.ownsRow base e size v' (n + m) (xs ++ news) → w.grownBy w' v.ownBlock → (v'.ownBlock = v.ownBlock ∨ v'.ownBlock = some w.heap.size) → K (a.put o.dst v') w') :
    if Region.wanted o (yielded ops a.tmps) = true then Oper.wp P o a w K Q else E' := by
  have hw : Region.wanted o (yielded ops a.tmps) = true := by simp [Region.wanted, hgd]
  rw [if_pos hw]
  exact wp_appK s x t ho E base v n xs hs hown A m c news hx hl hsl h1 hb hbase h
/-- A row of the call's own, as a slice that reads as its cells. -/
theorem Sl.of_ownK {w : World} {A : Option Addr} {base n c size : Nat} {e : TypeId} {cs : List Value} (h : w.ownsRow base e size (.slice A n c) n cs) : Sl w A cs := fun hn => by
  rcases h.2 with ⟨hv, hz⟩ | ⟨g, cap, cur, hv, _, hh, _, _, _, ht⟩
  · have := h.1; subst hz; simp at this; exact absurd this hn
  · simp at hv
    obtain ⟨rfl, _⟩ := hv
    refine ⟨g, 0, rfl, fun j u hu => ?_⟩
    have := h.cells (g := g) rfl j u hu
    rwa [add_lit] at this
theorem own_sliceK {w : World} {base n size : Nat} {e : TypeId} {v : Value} {xs : List Value} (h : w.ownsRow base e size v n xs) : ∃ A c, v = .slice A n c ∧ Sl w A xs ∧ n ≤ c ∧ c ≤ maxLen ∧ (∀ b o s, A = some ⟨b, o, s⟩ → base ≤ b) := by
  rcases h.2 with ⟨rfl, hz⟩ | ⟨g, cap, cur, rfl, hb, _, hnc, hcm, _⟩
  · have hl := h.1
    subst hz
    obtain rfl : xs = [] := List.eq_nil_of_length_eq_zero (by simpa using hl)
    exact ⟨none, 0, rfl, Sl.nil, Nat.le_refl _, by simp [maxLen], fun b o s h => by cases h⟩
  · exact ⟨_, cap, rfl, Sl.of_ownK h, hnc, hcm, fun b o s h => by cases h; exact hb⟩
theorem below_appK {B base n size : Nat} {e : TypeId} {w0 w w' : World} {v : Value} {xs : List Value} (h : Below B w0 w) (hg : w.grownBy w' v.ownBlock) (ho : w.ownsRow base e size v n xs) (hB : B ≤ base) (hs : B ≤ w.heap.size) : Below B w0 w' :=
  h.grown hg hs (fun k hk => Nat.le_trans hB (ho.lt k hk).1)
end
end Go.Proofs.YtpnnebnjkinndaaDoor
