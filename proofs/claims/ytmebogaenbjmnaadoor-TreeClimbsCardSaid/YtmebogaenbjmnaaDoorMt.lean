/- Roots on a stack; the turns on the way to a leaf. Nothing of the dump. -/
import Derived.Test.YtmebogaenbjmnaaDoorMs
namespace Go.Proofs.YtmebogaenbjmnaaDoor.TreeW
section
variable {D : Type}
/-- Blocks, the last first: each of a power of two, rising, none below 2^j. -/
def Pows : Nat → List (List D) → Prop
  | _, [] => True
  | j, b :: r => ∃ e, j ≤ e ∧ b.length = 2 ^ e ∧ Pows (e + 1) r
/-- How many elements the blocks have. -/
def total : List (List D) → Nat
  | [] => 0
  | b :: r => total r + b.length
theorem Pows.mono {j k : Nat} (h : j ≤ k) : ∀ {r : List (List D)}, Pows k r → Pows j r
  | [], _ => trivial
  | _ :: _, ⟨e, h1, h2, h3⟩ => ⟨e, Nat.le_trans h h1, h2, h3⟩
theorem pows_dvd : ∀ (r : List (List D)) (j : Nat), Pows j r → ∃ q, total r = q * 2 ^ j
  | [], _, _ => ⟨0, by simp [total]⟩
  | b :: r, j, ⟨e, h1, h2, h3⟩ => by
    obtain ⟨q, hq⟩ := pows_dvd r (e + 1) h3
    obtain ⟨d, rfl⟩ : ∃ d, e = j + d := ⟨e - j, by omega⟩
    refine ⟨q * 2 ^ (d + 1) + 2 ^ d, ?_⟩
    show total r + b.length = _
    rw [hq, h2, Nat.add_mul, Nat.mul_assoc, ← Nat.pow_add, ← Nat.pow_add, show d + 1 + j = j + d + 1 by omega, show d + j = j + d by omega]
theorem pows_odd {r : List (List D)} {j q : Nat} (h : Pows j r) (ht : total r = (2 * q + 1) * 2 ^ j) : ∃ b r', r = b :: r' ∧ b.length = 2 ^ j ∧ Pows (j + 1) r' ∧ total r' = 2 * q * 2 ^ j := by
  have hp : 1 ≤ 2 ^ j := Nat.one_le_two_pow
  cases r with
  | nil =>
    simp only [total] at ht
    have : 0 < (2 * q + 1) * 2 ^ j := Nat.mul_pos (by omega) (by omega)
    omega
  | cons b r' =>
    obtain ⟨e, h1, h2, h3⟩ := h
    rcases Nat.lt_or_ge j e with hlt | hge
    · obtain ⟨z, hz⟩ := pows_dvd (b :: r') (j + 1) ⟨e, hlt, h2, h3⟩
      rw [hz, Nat.pow_succ, Nat.mul_comm (2 ^ j) 2, ← Nat.mul_assoc] at ht
      have := Nat.eq_of_mul_eq_mul_right (by omega) ht
      omega
    · obtain rfl : e = j := by omega
      refine ⟨b, r', rfl, h2, h3, ?_⟩
      have : total r' + b.length = (2 * q + 1) * 2 ^ e := ht
      rw [h2, Nat.add_mul, Nat.one_mul] at this
      omega
theorem pows_even {r : List (List D)} {j q : Nat} (h : Pows j r) (ht : total r = 2 * q * 2 ^ j) : Pows (j + 1) r := by
  have hp : 1 ≤ 2 ^ j := Nat.one_le_two_pow
  cases r with
  | nil => trivial
  | cons b r' =>
    obtain ⟨e, h1, h2, h3⟩ := h
    rcases Nat.lt_or_ge j e with hlt | hge
    · exact ⟨e, hlt, h2, h3⟩
    · obtain rfl : e = j := by omega
      obtain ⟨z, hz⟩ := pows_dvd r' (e + 1) h3
      have h4 : total r' + b.length = 2 * q * 2 ^ e := ht
      have h5 : (2 * z + 1) * 2 ^ e = 2 * q * 2 ^ e := by
        rw [← h4, hz, h2, Nat.pow_succ, Nat.add_mul, Nat.one_mul, Nat.mul_comm 2 z, Nat.mul_assoc, Nat.mul_comm 2 (2 ^ e)]
      have := Nat.eq_of_mul_eq_mul_right (by omega) h5
      omega
theorem pows_len : ∀ (r : List (List D)) (j : Nat), Pows j r → r.length ≤ total r
  | [], _, _ => Nat.le_refl _
  | b :: r, j, ⟨e, h1, h2, h3⟩ => by
    have hp : 1 ≤ 2 ^ e := Nat.one_le_two_pow
    have := pows_len r (e + 1) h3
    show r.length + 1 ≤ total r + b.length
    omega
/-- The elements, in order. -/
def leaves (r : List (List D)) : List D := r.reverse.flatten
theorem leaves_cons (b : List D) (r : List (List D)) : leaves (b :: r) = leaves r ++ b := by simp [leaves]
theorem leaves_len : ∀ (r : List (List D)), (leaves r).length = total r
  | [] => rfl
  | b :: r => by rw [leaves_cons, List.length_append, leaves_len r]; rfl
variable (N : D → D → D) (E : D)
/-- The stack of the blocks' roots, the last on top (at its end). -/
def stk (r : List (List D)) : List D := (r.map (root N E)).reverse
theorem stk_cons (b : List D) (r : List (List D)) : stk N E (b :: r) = stk N E r ++ [root N E b] := by simp [stk]
theorem stk_len (r : List (List D)) : (stk N E r).length = r.length := by simp [stk]
/-- Two blocks become one. -/
theorem stk_join (b c : List D) (r : List (List D)) {e : Nat} (hc : c.length = 2 ^ e) (hb : 1 ≤ b.length) (hle : b.length ≤ 2 ^ e) : stk N E ((c ++ b) :: r) = stk N E r ++ [N (root N E c) (root N E b)] := by
  rw [stk_cons, root_app N E c b hc hb (by omega)]
/-- How the stack stands while leaves are pushed: the last block has 2^t, and n times that are there. -/
structure Mid (l : List D) (n : Nat) (st : List D) : Prop where
  ex : ∃ b r t, n * 2 ^ t = l.length ∧ 1 ≤ n ∧ b.length = 2 ^ t ∧ Pows t r ∧ total r = (n - 1) * 2 ^ t ∧ leaves (b :: r) = l ∧ st = stk N E (b :: r)
/-- How it stands between two leaves. -/
structure Full (l : List D) (st : List D) : Prop where
  ex : ∃ r, Pows 0 r ∧ leaves r = l ∧ st = stk N E r
/-- How it stands at the end. -/
structure Last (l : List D) (st : List D) : Prop where
  ex : ∃ b r j, Pows j r ∧ 1 ≤ b.length ∧ b.length ≤ 2 ^ j ∧ leaves (b :: r) = l ∧ st = stk N E (b :: r)
variable {N} {E}
theorem Full.nil : Full N E [] [] := ⟨[], trivial, rfl, rfl⟩
theorem Full.len {l st : List D} (h : Full N E l st) : st.length ≤ l.length := by
  obtain ⟨r, h1, h2, rfl⟩ := h.ex
  rw [stk_len, ← h2, leaves_len]; exact pows_len r 0 h1
theorem Mid.len {l st : List D} {n : Nat} (h : Mid N E l n st) : st.length ≤ l.length := by
  obtain ⟨b, r, t, _, _, h3, h4, _, h6, rfl⟩ := h.ex
  have := pows_len r t h4
  have hp : 1 ≤ 2 ^ t := Nat.one_le_two_pow
  rw [stk_len, ← h6, leaves_len]
  show r.length + 1 ≤ total r + b.length
  omega
theorem Full.push {l st : List D} (h : Full N E l st) (x : D) : Mid N E (l ++ [x]) (l.length + 1) (st ++ [x]) := by
  obtain ⟨r, h1, h2, rfl⟩ := h.ex
  exact ⟨[x], r, 0, by simp, by omega, rfl, h1, by rw [← h2, leaves_len]; simp, by rw [leaves_cons, h2], by rw [stk_cons, root_one]⟩
theorem Mid.pos {l st : List D} {n : Nat} (h : Mid N E l n st) : 1 ≤ n ∧ n ≤ l.length := by
  obtain ⟨b, r, t, h1, h2, _⟩ := h.ex
  have hp : 1 ≤ 2 ^ t := Nat.one_le_two_pow
  exact ⟨h2, by rw [← h1]; exact Nat.le_mul_of_pos_right _ hp⟩
/-- n is even: the two last become one. -/
theorem Mid.even {l st : List D} {n : Nat} (h : Mid N E l n st) (he : n % 2 = 0) : ∃ st' x y, st = st' ++ [x, y] ∧ Mid N E l (n / 2) (st' ++ [N x y]) := by
  obtain ⟨b, r, t, h1, h2, h3, h4, h5, h6, rfl⟩ := h.ex
  have hp : 1 ≤ 2 ^ t := Nat.one_le_two_pow
  obtain ⟨q, rfl⟩ : ∃ q, n = 2 * q + 2 := ⟨n / 2 - 1, by omega⟩
  obtain ⟨c, r', rfl, g1, g2, g3⟩ := pows_odd (q := q) h4 (by rw [h5]; rfl)
  refine ⟨stk N E r', root N E c, root N E b, by rw [stk_cons, stk_cons, List.append_assoc]; rfl, c ++ b, r', t + 1, ?_, by omega, by rw [List.length_append, g1, h3, Nat.pow_succ]; omega, g2, ?_, ?_, ?_⟩
  · rw [← h1, Nat.pow_succ, show (2 * q + 2) / 2 = q + 1 by omega, show 2 * q + 2 = (q + 1) * 2 by omega, Nat.mul_assoc, Nat.mul_comm 2 (2 ^ t)]
  · rw [g3, show (2 * q + 2) / 2 - 1 = q by omega, Nat.pow_succ, Nat.mul_comm 2 q, Nat.mul_assoc, Nat.mul_comm 2 (2 ^ t)]
  · rw [leaves_cons, leaves_cons, List.append_assoc] at h6
    rw [leaves_cons]; exact h6
  · rw [stk_join N E b c r' g1 (by omega) (by omega)]
/-- n is odd: nothing is joined any more. -/
theorem Mid.odd {l st : List D} {n : Nat} (h : Mid N E l n st) (he : n % 2 = 1) : Full N E l st := by
  obtain ⟨b, r, t, h1, h2, h3, h4, h5, h6, rfl⟩ := h.ex
  obtain ⟨q, rfl⟩ : ∃ q, n = 2 * q + 1 := ⟨n / 2, by omega⟩
  exact ⟨b :: r, ⟨t, Nat.zero_le _, h3, pows_even (q := q) h4 (by rw [h5]; rfl)⟩, h6, rfl⟩
theorem Full.last {l st : List D} (h : Full N E l st) (hl : l ≠ []) : Last N E l st := by
  obtain ⟨r, h1, h2, rfl⟩ := h.ex
  cases r with
  | nil => exact absurd h2.symm hl
  | cons b r =>
    obtain ⟨e, _, g2, g3⟩ := h1
    have hp : 1 ≤ 2 ^ e := Nat.one_le_two_pow
    exact ⟨b, r, e + 1, g3, by omega, by rw [Nat.pow_succ]; omega, h2, rfl⟩
theorem Last.pos {l st : List D} (h : Last N E l st) : 1 ≤ st.length := by
  obtain ⟨b, r, j, _, _, _, _, rfl⟩ := h.ex
  rw [stk_len]; simp
theorem Last.len {l st : List D} (h : Last N E l st) : st.length ≤ l.length := by
  obtain ⟨b, r, j, g1, g2, g3, g4, rfl⟩ := h.ex
  have := pows_len r j g1
  rw [stk_len, ← g4, leaves_len]
  show r.length + 1 ≤ total r + b.length
  omega
theorem Last.one {l st : List D} (h : Last N E l st) (h1 : st.length = 1) : st = [root N E l] := by
  obtain ⟨b, r, j, g1, g2, g3, g4, rfl⟩ := h.ex
  rw [stk_len] at h1
  obtain rfl : r = [] := List.eq_nil_of_length_eq_zero (by simpa using h1)
  rw [← g4]; simp [stk, leaves]
theorem Last.more {l st : List D} (h : Last N E l st) (h2 : 2 ≤ st.length) : ∃ st' x y, st = st' ++ [x, y] ∧ Last N E l (st' ++ [N x y]) := by
  obtain ⟨b, r, j, g1, g2, g3, g4, rfl⟩ := h.ex
  rw [stk_len] at h2
  cases r with
  | nil => simp at h2
  | cons c r' =>
    obtain ⟨e, f1, f2, f3⟩ := g1
    have hle : 2 ^ j ≤ 2 ^ e := Nat.pow_le_pow_right (by omega) f1
    refine ⟨stk N E r', root N E c, root N E b, by rw [stk_cons, stk_cons, List.append_assoc]; rfl, c ++ b, r', e + 1, f3, by rw [List.length_append]; omega, by rw [List.length_append, Nat.pow_succ]; omega, ?_, ?_⟩
    · rw [leaves_cons, leaves_cons, List.append_assoc] at g4
      rw [leaves_cons]; exact g4
    · rw [stk_join N E b c r' f2 g2 (by omega)]
end
/-- From the root down: is the leaf in the right part? -/
def turnsF : Nat → Nat → Nat → List Bool
  | 0, _, _ => []
  | f + 1, i, n => if n < 2 then [] else if i < split n then false :: turnsF f i (split n) else true :: turnsF f (i - split n) (n - split n)
def turns (i n : Nat) : List Bool := turnsF n i n
theorem turnsF_fuel : ∀ (f g i n : Nat), n ≤ f → n ≤ g → turnsF f i n = turnsF g i n
  | 0, 0, _, _, _, _ => rfl
  | 0, g + 1, _, n, h, _ => by unfold turnsF; rw [if_pos (by omega)]
  | f + 1, 0, _, n, _, h => by unfold turnsF; rw [if_pos (by omega)]
  | f + 1, g + 1, i, n, hf, hg => by
    unfold turnsF
    by_cases h : n < 2
    · rw [if_pos h, if_pos h]
    · rw [if_neg h, if_neg h]
      obtain ⟨a, b, _, _⟩ := split_spec (n := n) (by omega)
      rw [turnsF_fuel f g i (split n) (by omega) (by omega), turnsF_fuel f g (i - split n) (n - split n) (by omega) (by omega)]
theorem turns_one (i n : Nat) (h : n < 2) : turns i n = [] := by
  unfold turns
  cases n with
  | zero => rfl
  | succ m => unfold turnsF; rw [if_pos h]
theorem turns_two (i n : Nat) (h : 2 ≤ n) : turns i n = if i < split n then false :: turns i (split n) else true :: turns (i - split n) (n - split n) := by
  obtain ⟨a, b, _, _⟩ := split_spec h
  obtain ⟨m, rfl⟩ : ∃ m, n = m + 1 := ⟨n - 1, by omega⟩
  unfold turns
  conv => lhs; unfold turnsF
  rw [if_neg (by omega), turnsF_fuel m (split (m + 1)) i (split (m + 1)) (by omega) (Nat.le_refl _), turnsF_fuel m (m + 1 - split (m + 1)) (i - split (m + 1)) (m + 1 - split (m + 1)) (by omega) (Nat.le_refl _)]
theorem turns_left {i n : Nat} (h : 2 ≤ n) (hi : i < split n) : turns i n = false :: turns i (split n) := by rw [turns_two i n h, if_pos hi]
theorem turns_right {i n : Nat} (h : 2 ≤ n) (hi : ¬ i < split n) : turns i n = true :: turns (i - split n) (n - split n) := by rw [turns_two i n h, if_neg hi]
theorem steps_left {i n : Nat} (h : 2 ≤ n) (hi : i < split n) : steps i n = 1 + steps i (split n) := by rw [steps_two i n h, if_pos hi]
theorem steps_right {i n : Nat} (h : 2 ≤ n) (hi : ¬ i < split n) : steps i n = 1 + steps (i - split n) (n - split n) := by rw [steps_two i n h, if_neg hi]
theorem turns_len : ∀ (m i n : Nat), n ≤ m → (turns i n).length = steps i n
  | m, i, n, hm => by
    by_cases h : n < 2
    · rw [turns_one i n h, steps_one i n h]; rfl
    · obtain ⟨a, b, _, _⟩ := split_spec (n := n) (by omega)
      cases m with
      | zero => omega
      | succ m =>
        by_cases hi : i < split n
        · rw [turns_left (by omega) hi, steps_left (by omega) hi, List.length_cons, turns_len m _ _ (by omega)]; omega
        · rw [turns_right (by omega) hi, steps_right (by omega) hi, List.length_cons, turns_len m _ _ (by omega)]; omega
section
variable {D : Type} (N : D → D → D)
/-- From a leaf up by turns and digests. -/
def up : D → List Bool → List D → D
  | x, t :: ts, d :: ds => up (if t then N d x else N x d) ts ds
  | x, _, _ => x
theorem up_nil (x : D) (p : List D) : up N x [] p = x := by cases p <;> rfl
theorem up_app : ∀ (a : List Bool) (p : List D) (x : D) (t : Bool) (d : D), a.length = p.length → up N x (a ++ [t]) (p ++ [d]) = if t then N d (up N x a p) else N (up N x a p) d
  | [], [], _, _, _, _ => rfl
  | [], _ :: _, _, _, _, h => by simp at h
  | _ :: _, [], _, _, _, h => by simp at h
  | a :: as, p :: ps, x, t, d, h => by
    show up N _ (as ++ [t]) (ps ++ [d]) = _
    rw [up_app as ps _ t d (by simpa using h)]
    rfl
theorem up_drop (x : D) (ts : List Bool) (p : List D) (j : Nat) (t : Bool) (d : D) (ht : ts[j]? = some t) (hd : p[j]? = some d) : up N x (ts.drop j) (p.drop j) = up N (if t then N d x else N x d) (ts.drop (j + 1)) (p.drop (j + 1)) := by
  obtain ⟨h1, h2⟩ := List.getElem?_eq_some_iff.1 ht
  obtain ⟨h3, h4⟩ := List.getElem?_eq_some_iff.1 hd
  rw [List.drop_eq_getElem_cons h1, List.drop_eq_getElem_cons h3, h2, h4]
  rfl
variable (E : D)
theorem climb_left {x : D} {i n : Nat} {p : List D} {d : D} (h : 2 ≤ n) (hi : i < split n) : climb N E x i n (p ++ [d]) = N (climb N E x i (split n) p) d := by
  rw [climb_two N E x i n _ h, if_pos hi, List.dropLast_concat, List.getLast?_concat, Option.getD_some]
theorem climb_right {x : D} {i n : Nat} {p : List D} {d : D} (h : 2 ≤ n) (hi : ¬ i < split n) : climb N E x i n (p ++ [d]) = N d (climb N E x (i - split n) (n - split n) p) := by
  rw [climb_two N E x i n _ h, if_neg hi, List.dropLast_concat, List.getLast?_concat, Option.getD_some]
theorem ways_left {x : D} {i n : Nat} {p : List D} {d : D} (h : 2 ≤ n) (hi : i < split n) : ways N E x i n (p ++ [d]) = ways N E x i (split n) p ++ [(climb N E x i (split n) p, d)] := by
  rw [ways_two N E x i n _ h, if_pos hi, List.dropLast_concat, List.getLast?_concat, Option.getD_some]
theorem ways_right {x : D} {i n : Nat} {p : List D} {d : D} (h : 2 ≤ n) (hi : ¬ i < split n) : ways N E x i n (p ++ [d]) = ways N E x (i - split n) (n - split n) p ++ [(d, climb N E x (i - split n) (n - split n) p)] := by
  rw [ways_two N E x i n _ h, if_neg hi, List.dropLast_concat, List.getLast?_concat, Option.getD_some]
theorem snoc_of {p : List D} {m : Nat} (h : p.length = 1 + m) : ∃ q d, p = q ++ [d] ∧ q.length = m := by
  have hne : p ≠ [] := by rintro rfl; simp at h; omega
  refine ⟨p.dropLast, p.getLast hne, (List.dropLast_concat_getLast hne).symm, ?_⟩
  rw [List.length_dropLast, h]; omega
theorem climb_up : ∀ (m : Nat) (x : D) (i n : Nat) (p : List D), n ≤ m → p.length = steps i n → climb N E x i n p = up N x (turns i n).reverse p
  | m, x, i, n, p, hm, hp => by
    by_cases h : n < 2
    · rw [climb_one N E x i n p h, turns_one i n h, List.reverse_nil, up_nil]
    · obtain ⟨a, b, _, _⟩ := split_spec (n := n) (by omega)
      cases m with
      | zero => omega
      | succ m =>
        by_cases hi : i < split n
        · rw [steps_left (by omega) hi] at hp
          obtain ⟨q, d, rfl, hq⟩ := snoc_of hp
          rw [climb_left N E (by omega) hi, climb_up m x i (split n) q (by omega) hq, turns_left (by omega) hi, List.reverse_cons, up_app N _ q x false d (by rw [List.length_reverse, turns_len _ i (split n) (Nat.le_refl _), hq])]
          rfl
        · rw [steps_right (by omega) hi] at hp
          obtain ⟨q, d, rfl, hq⟩ := snoc_of hp
          rw [climb_right N E (by omega) hi, climb_up m x (i - split n) (n - split n) q (by omega) hq, turns_right (by omega) hi, List.reverse_cons, up_app N _ q x true d (by rw [List.length_reverse, turns_len _ (i - split n) (n - split n) (Nat.le_refl _), hq])]
          rfl
end
end Go.Proofs.YtmebogaenbjmnaaDoor.TreeW
