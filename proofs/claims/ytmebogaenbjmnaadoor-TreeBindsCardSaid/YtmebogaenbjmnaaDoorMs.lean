/- Merkle trees in plain words, over any way N to join two digests and any digest E of nothing. Nothing of the dump. -/
import Derived.Test.YtmebogaenbjmnaaDoorBase
namespace Go.Proofs.YtmebogaenbjmnaaDoor.TreeW
/-- The greatest power of two below n (n of 2 and more). -/
def splitG : Nat → Nat → Nat → Nat
  | 0, k, _ => k
  | f + 1, k, n => if 2 * k < n then splitG f (2 * k) n else k
def split (n : Nat) : Nat := splitG n 1 n
theorem splitG_spec : ∀ (f k n : Nat), 1 ≤ k → k < n → n ≤ k + f → splitG f k n < n ∧ n ≤ 2 * splitG f k n ∧ k ≤ splitG f k n ∧ ∃ j, splitG f k n = k * 2 ^ j
  | 0, k, n, _, h1, h2 => by omega
  | f + 1, k, n, h0, h1, h2 => by
    unfold splitG
    by_cases h : 2 * k < n
    · rw [if_pos h]
      obtain ⟨a, b, c, j, hj⟩ := splitG_spec f (2 * k) n (by omega) h (by omega)
      refine ⟨a, b, by omega, j + 1, ?_⟩
      rw [hj, Nat.pow_succ, Nat.mul_comm 2 k, Nat.mul_assoc, Nat.mul_comm 2 (2 ^ j)]
    · rw [if_neg h]
      exact ⟨h1, by omega, Nat.le_refl _, 0, by simp⟩
theorem split_spec {n : Nat} (h : 2 ≤ n) : 1 ≤ split n ∧ split n < n ∧ n ≤ 2 * split n ∧ ∃ j, split n = 2 ^ j := by
  obtain ⟨a, b, c, j, hj⟩ := splitG_spec n 1 n (by omega) (by omega) (by omega)
  exact ⟨c, a, b, j, by unfold split; rw [hj, Nat.one_mul]⟩
theorem pow_uniq {i j n : Nat} (h1 : 2 ^ i < n) (h2 : n ≤ 2 * 2 ^ i) (h3 : 2 ^ j < n) (h4 : n ≤ 2 * 2 ^ j) : i = j := by
  rcases Nat.lt_trichotomy i j with h | h | h
  · have := Nat.pow_le_pow_right (n := 2) (by omega) (show i + 1 ≤ j from h)
    rw [Nat.pow_succ] at this; omega
  · exact h
  · have := Nat.pow_le_pow_right (n := 2) (by omega) (show j + 1 ≤ i from h)
    rw [Nat.pow_succ] at this; omega
/-- Such a power is the one. -/
theorem split_uniq {n k j : Nat} (hk : k = 2 ^ j) (h1 : k < n) (h2 : n ≤ 2 * k) : split n = k := by
  have hp : 1 ≤ 2 ^ j := Nat.one_le_two_pow
  obtain ⟨_, a, b, i, hi⟩ := split_spec (n := n) (by omega)
  subst hk
  rw [hi] at a b ⊢
  rw [pow_uniq a b h1 h2]
section
variable {D : Type} (N : D → D → D) (E : D)
/-- The root. -/
def rootF : Nat → List D → D
  | 0, _ => E
  | f + 1, l => match l with
    | [] => E
    | [x] => x
    | l => N (rootF f (l.take (split l.length))) (rootF f (l.drop (split l.length)))
def root (l : List D) : D := rootF N E l.length l
theorem rootF_two (f : Nat) (l : List D) (h : 2 ≤ l.length) : rootF N E (f + 1) l = N (rootF N E f (l.take (split l.length))) (rootF N E f (l.drop (split l.length))) := by
  match l, h with
  | _ :: _ :: _, _ => rfl
theorem rootF_fuel : ∀ (f g : Nat) (l : List D), l.length ≤ f → l.length ≤ g → rootF N E f l = rootF N E g l
  | f, g, [], _, _ => by cases f <;> cases g <;> rfl
  | 0, _, _ :: _, h, _ => by simp at h
  | _ + 1, 0, _ :: _, _, h => by simp at h
  | f + 1, g + 1, [x], _, _ => rfl
  | f + 1, g + 1, x :: y :: l, hf, hg => by
    have h2 : 2 ≤ (x :: y :: l).length := by simp
    obtain ⟨a, b, _, _⟩ := split_spec h2
    rw [rootF_two N E f _ h2, rootF_two N E g _ h2,
      rootF_fuel f g _ (by rw [List.length_take]; omega) (by rw [List.length_take]; omega),
      rootF_fuel f g _ (by rw [List.length_drop]; omega) (by rw [List.length_drop]; omega)]
theorem root_nil : root N E [] = E := rfl
theorem root_one (x : D) : root N E [x] = x := rfl
theorem root_two (l : List D) (h : 2 ≤ l.length) : root N E l = N (root N E (l.take (split l.length))) (root N E (l.drop (split l.length))) := by
  obtain ⟨a, b, _, _⟩ := split_spec h
  obtain ⟨m, hm⟩ : ∃ m, l.length = m + 1 := ⟨l.length - 1, by omega⟩
  have e : root N E l = rootF N E (m + 1) l := by unfold root; rw [hm]
  rw [e, rootF_two N E m l h]
  unfold root
  rw [rootF_fuel N E m (l.take (split l.length)).length _ (by rw [List.length_take]; omega) (Nat.le_refl _),
    rootF_fuel N E m (l.drop (split l.length)).length _ (by rw [List.length_drop]; omega) (Nat.le_refl _)]
/-- The root of two parts, the first of a power of two. -/
theorem root_app (a b : List D) {j : Nat} (ha : a.length = 2 ^ j) (hb : 1 ≤ b.length) (hab : b.length ≤ a.length) : root N E (a ++ b) = N (root N E a) (root N E b) := by
  have hp : 1 ≤ 2 ^ j := Nat.one_le_two_pow
  have hl : (a ++ b).length = a.length + b.length := List.length_append
  have hs : split (a ++ b).length = a.length := split_uniq ha (by omega) (by omega)
  rw [root_two N E _ (by omega), hs, List.take_left, List.drop_left]
/-- The path of a place, from the leaf up. -/
def pathF : Nat → List D → Nat → List D
  | 0, _, _ => []
  | f + 1, l, i => if l.length < 2 then [] else
      if i < split l.length then pathF f (l.take (split l.length)) i ++ [root N E (l.drop (split l.length))]
      else pathF f (l.drop (split l.length)) (i - split l.length) ++ [root N E (l.take (split l.length))]
def path (l : List D) (i : Nat) : List D := pathF N E l.length l i
theorem pathF_fuel : ∀ (f g : Nat) (l : List D) (i : Nat), l.length ≤ f → l.length ≤ g → pathF N E f l i = pathF N E g l i
  | 0, 0, _, _, _, _ => rfl
  | 0, g + 1, l, _, h, _ => by unfold pathF; rw [if_pos (by omega)]
  | f + 1, 0, l, _, _, h => by unfold pathF; rw [if_pos (by omega)]
  | f + 1, g + 1, l, i, hf, hg => by
    unfold pathF
    by_cases h : l.length < 2
    · rw [if_pos h, if_pos h]
    · rw [if_neg h, if_neg h]
      obtain ⟨a, b, _, _⟩ := split_spec (n := l.length) (by omega)
      rw [pathF_fuel f g (l.take (split l.length)) i (by rw [List.length_take]; omega) (by rw [List.length_take]; omega),
        pathF_fuel f g (l.drop (split l.length)) _ (by rw [List.length_drop]; omega) (by rw [List.length_drop]; omega)]
theorem path_one (l : List D) (i : Nat) (h : l.length < 2) : path N E l i = [] := by
  unfold path
  cases hl : l.length with
  | zero => rfl
  | succ m => unfold pathF; rw [if_pos h]
theorem path_two (l : List D) (i : Nat) (h : 2 ≤ l.length) : path N E l i = if i < split l.length then path N E (l.take (split l.length)) i ++ [root N E (l.drop (split l.length))]
      else path N E (l.drop (split l.length)) (i - split l.length) ++ [root N E (l.take (split l.length))] := by
  obtain ⟨a, b, _, _⟩ := split_spec h
  obtain ⟨m, hm⟩ : ∃ m, l.length = m + 1 := ⟨l.length - 1, by omega⟩
  have e : path N E l i = pathF N E (m + 1) l i := by unfold path; rw [hm]
  rw [e]
  conv => lhs; unfold pathF
  rw [if_neg (by omega)]
  unfold path
  rw [pathF_fuel N E m (l.take (split l.length)).length _ _ (by rw [List.length_take]; omega) (Nat.le_refl _),
    pathF_fuel N E m (l.drop (split l.length)).length _ _ (by rw [List.length_drop]; omega) (Nat.le_refl _)]
/-- How many digests a path of a place has. -/
def stepsF : Nat → Nat → Nat → Nat
  | 0, _, _ => 0
  | f + 1, i, n => if n < 2 then 0 else if i < split n then 1 + stepsF f i (split n) else 1 + stepsF f (i - split n) (n - split n)
def steps (i n : Nat) : Nat := stepsF n i n
theorem stepsF_fuel : ∀ (f g i n : Nat), n ≤ f → n ≤ g → stepsF f i n = stepsF g i n
  | 0, 0, _, _, _, _ => rfl
  | 0, g + 1, _, n, h, _ => by unfold stepsF; rw [if_pos (by omega)]
  | f + 1, 0, _, n, _, h => by unfold stepsF; rw [if_pos (by omega)]
  | f + 1, g + 1, i, n, hf, hg => by
    unfold stepsF
    by_cases h : n < 2
    · rw [if_pos h, if_pos h]
    · rw [if_neg h, if_neg h]
      obtain ⟨a, b, _, _⟩ := split_spec (n := n) (by omega)
      rw [stepsF_fuel f g i (split n) (by omega) (by omega), stepsF_fuel f g (i - split n) (n - split n) (by omega) (by omega)]
theorem steps_one (i n : Nat) (h : n < 2) : steps i n = 0 := by
  unfold steps
  cases n with
  | zero => rfl
  | succ m => unfold stepsF; rw [if_pos h]
theorem steps_two (i n : Nat) (h : 2 ≤ n) : steps i n = if i < split n then 1 + steps i (split n) else 1 + steps (i - split n) (n - split n) := by
  obtain ⟨a, b, _, _⟩ := split_spec h
  obtain ⟨m, rfl⟩ : ∃ m, n = m + 1 := ⟨n - 1, by omega⟩
  unfold steps
  conv => lhs; unfold stepsF
  rw [if_neg (by omega), stepsF_fuel m (split (m + 1)) i (split (m + 1)) (by omega) (Nat.le_refl _), stepsF_fuel m (m + 1 - split (m + 1)) (i - split (m + 1)) (m + 1 - split (m + 1)) (by omega) (Nat.le_refl _)]
theorem path_len : ∀ (m : Nat) (l : List D) (i : Nat), l.length ≤ m → (path N E l i).length = steps i l.length
  | m, l, i, hm => by
    by_cases h : l.length < 2
    · rw [path_one N E l i h, steps_one i _ h]; rfl
    · obtain ⟨a, b, _, _⟩ := split_spec (n := l.length) (by omega)
      cases m with
      | zero => omega
      | succ m =>
        rw [path_two N E l i (by omega), steps_two i _ (by omega)]
        have e1 : (l.take (split l.length)).length = split l.length := by rw [List.length_take]; omega
        have e2 : (l.drop (split l.length)).length = l.length - split l.length := List.length_drop
        split
        · rw [List.length_append, path_len m (l.take (split l.length)) i (by omega), e1]; simp; omega
        · rw [List.length_append, path_len m (l.drop (split l.length)) _ (by omega), e2]; simp; omega
/-- From a leaf up, the path's digests by hand. -/
def climbF : Nat → D → Nat → Nat → List D → D
  | 0, x, _, _, _ => x
  | f + 1, x, i, n, p => if n < 2 then x else
      if i < split n then N (climbF f x i (split n) p.dropLast) (p.getLast?.getD E)
      else N (p.getLast?.getD E) (climbF f x (i - split n) (n - split n) p.dropLast)
def climb (x : D) (i n : Nat) (p : List D) : D := climbF N E n x i n p
theorem climbF_fuel : ∀ (f g : Nat) (x : D) (i n : Nat) (p : List D), n ≤ f → n ≤ g → climbF N E f x i n p = climbF N E g x i n p
  | 0, 0, _, _, _, _, _, _ => rfl
  | 0, g + 1, _, _, n, _, h, _ => by unfold climbF; rw [if_pos (by omega)]
  | f + 1, 0, _, _, n, _, _, h => by unfold climbF; rw [if_pos (by omega)]
  | f + 1, g + 1, x, i, n, p, hf, hg => by
    unfold climbF
    by_cases h : n < 2
    · rw [if_pos h, if_pos h]
    · rw [if_neg h, if_neg h]
      obtain ⟨a, b, _, _⟩ := split_spec (n := n) (by omega)
      rw [climbF_fuel f g x i (split n) _ (by omega) (by omega), climbF_fuel f g x (i - split n) (n - split n) _ (by omega) (by omega)]
theorem climb_one (x : D) (i n : Nat) (p : List D) (h : n < 2) : climb N E x i n p = x := by
  unfold climb
  cases n with
  | zero => rfl
  | succ m => unfold climbF; rw [if_pos h]
theorem climb_two (x : D) (i n : Nat) (p : List D) (h : 2 ≤ n) : climb N E x i n p = if i < split n then N (climb N E x i (split n) p.dropLast) (p.getLast?.getD E) else N (p.getLast?.getD E) (climb N E x (i - split n) (n - split n) p.dropLast) := by
  obtain ⟨a, b, _, _⟩ := split_spec h
  obtain ⟨m, rfl⟩ : ∃ m, n = m + 1 := ⟨n - 1, by omega⟩
  unfold climb
  conv => lhs; unfold climbF
  rw [if_neg (by omega), climbF_fuel N E m (split (m + 1)) x i (split (m + 1)) _ (by omega) (Nat.le_refl _), climbF_fuel N E m (m + 1 - split (m + 1)) x (i - split (m + 1)) (m + 1 - split (m + 1)) _ (by omega) (Nat.le_refl _)]
/-- P6.4: a path leads to the root. -/
theorem climb_path : ∀ (m : Nat) (l : List D) (i : Nat) (x : D), l.length ≤ m → l[i]? = some x → climb N E x i l.length (path N E l i) = root N E l
  | m, l, i, x, hm, hx => by
    have hi : i < l.length := (List.getElem?_eq_some_iff.1 hx).1
    by_cases h : l.length < 2
    · rw [climb_one N E x i _ _ h]
      match l, h, hi, hx with
      | [y], _, hi, hx =>
        have : i = 0 := by simpa using hi
        subst this
        simp at hx
        rw [root_one, hx]
    · obtain ⟨a, b, _, _⟩ := split_spec (n := l.length) (by omega)
      cases m with
      | zero => omega
      | succ m =>
        rw [climb_two N E x i _ _ (by omega), root_two N E l (by omega), path_two N E l i (by omega)]
        have e1 : (l.take (split l.length)).length = split l.length := by rw [List.length_take]; omega
        have e2 : (l.drop (split l.length)).length = l.length - split l.length := List.length_drop
        by_cases hs : i < split l.length
        · simp only [hs, if_true, List.dropLast_concat, List.getLast?_append, List.getLast?_singleton, Option.some_or, Option.getD_some]
          have := climb_path m (l.take (split l.length)) i x (by omega) (by rw [List.getElem?_take, if_pos hs]; exact hx)
          rw [e1] at this
          rw [this]
        · simp only [hs, if_false, List.dropLast_concat, List.getLast?_append, List.getLast?_singleton, Option.some_or, Option.getD_some]
          have := climb_path m (l.drop (split l.length)) (i - split l.length) x (by omega) (by rw [List.getElem?_drop, show split l.length + (i - split l.length) = i by omega]; exact hx)
          rw [e2] at this
          rw [this]
/-- What a path's steps join, from the leaf up. -/
def waysF : Nat → D → Nat → Nat → List D → List (D × D)
  | 0, _, _, _, _ => []
  | f + 1, x, i, n, p => if n < 2 then [] else
      if i < split n then waysF f x i (split n) p.dropLast ++ [(climb N E x i (split n) p.dropLast, p.getLast?.getD E)]
      else waysF f x (i - split n) (n - split n) p.dropLast ++ [(p.getLast?.getD E, climb N E x (i - split n) (n - split n) p.dropLast)]
def ways (x : D) (i n : Nat) (p : List D) : List (D × D) := waysF N E n x i n p
theorem waysF_fuel : ∀ (f g : Nat) (x : D) (i n : Nat) (p : List D), n ≤ f → n ≤ g → waysF N E f x i n p = waysF N E g x i n p
  | 0, 0, _, _, _, _, _, _ => rfl
  | 0, g + 1, _, _, n, _, h, _ => by unfold waysF; rw [if_pos (by omega)]
  | f + 1, 0, _, _, n, _, _, h => by unfold waysF; rw [if_pos (by omega)]
  | f + 1, g + 1, x, i, n, p, hf, hg => by
    unfold waysF
    by_cases h : n < 2
    · rw [if_pos h, if_pos h]
    · rw [if_neg h, if_neg h]
      obtain ⟨a, b, _, _⟩ := split_spec (n := n) (by omega)
      rw [waysF_fuel f g x i (split n) _ (by omega) (by omega), waysF_fuel f g x (i - split n) (n - split n) _ (by omega) (by omega)]
theorem ways_one (x : D) (i n : Nat) (p : List D) (h : n < 2) : ways N E x i n p = [] := by
  unfold ways
  cases n with
  | zero => rfl
  | succ m => unfold waysF; rw [if_pos h]
theorem ways_two (x : D) (i n : Nat) (p : List D) (h : 2 ≤ n) : ways N E x i n p = if i < split n then ways N E x i (split n) p.dropLast ++ [(climb N E x i (split n) p.dropLast, p.getLast?.getD E)]
      else ways N E x (i - split n) (n - split n) p.dropLast ++ [(p.getLast?.getD E, climb N E x (i - split n) (n - split n) p.dropLast)] := by
  obtain ⟨a, b, _, _⟩ := split_spec h
  obtain ⟨m, rfl⟩ : ∃ m, n = m + 1 := ⟨n - 1, by omega⟩
  unfold ways
  conv => lhs; unfold waysF
  rw [if_neg (by omega), waysF_fuel N E m (split (m + 1)) x i (split (m + 1)) _ (by omega) (Nat.le_refl _), waysF_fuel N E m (m + 1 - split (m + 1)) x (i - split (m + 1)) (m + 1 - split (m + 1)) _ (by omega) (Nat.le_refl _)]
theorem ways_len : ∀ (m : Nat) (x : D) (i n : Nat) (p : List D), n ≤ m → (ways N E x i n p).length = steps i n
  | m, x, i, n, p, hm => by
    by_cases h : n < 2
    · rw [ways_one N E x i n p h, steps_one i n h]; rfl
    · obtain ⟨a, b, _, _⟩ := split_spec (n := n) (by omega)
      cases m with
      | zero => omega
      | succ m =>
        rw [ways_two N E x i n p (by omega), steps_two i n (by omega)]
        split
        · rw [List.length_append, ways_len m x i (split n) p.dropLast (by omega)]; simp; omega
        · rw [List.length_append, ways_len m x (i - split n) (n - split n) p.dropLast (by omega)]; simp; omega
/-- P6.6: two unlike leaves, one root: some step joins unlike pairs to one digest. -/
theorem ways_bind : ∀ (m : Nat) (x y : D) (i n : Nat) (p q : List D), n ≤ m → x ≠ y → climb N E x i n p = climb N E y i n q →
    ∃ (k : Nat) (u v : D × D), (ways N E x i n p)[k]? = some u ∧ (ways N E y i n q)[k]? = some v ∧ u ≠ v ∧ N u.1 u.2 = N v.1 v.2
  | m, x, y, i, n, p, q, hm, hne, he => by
    by_cases h : n < 2
    · rw [climb_one N E x i n p h, climb_one N E y i n q h] at he; exact absurd he hne
    · obtain ⟨a, b, _, _⟩ := split_spec (n := n) (by omega)
      cases m with
      | zero => omega
      | succ m =>
        rw [climb_two N E x i n p (by omega), climb_two N E y i n q (by omega)] at he
        rw [ways_two N E x i n p (by omega), ways_two N E y i n q (by omega)]
        by_cases hs : i < split n
        · simp only [hs, if_true] at he ⊢
          have l1 := ways_len N E m x i (split n) p.dropLast (by omega)
          have l2 := ways_len N E m y i (split n) q.dropLast (by omega)
          by_cases hc : climb N E x i (split n) p.dropLast = climb N E y i (split n) q.dropLast
          · obtain ⟨k, u, v, h1, h2, h3⟩ := ways_bind m x y i (split n) p.dropLast q.dropLast (by omega) hne hc
            have k1 := (List.getElem?_eq_some_iff.1 h1).1
            have k2 := (List.getElem?_eq_some_iff.1 h2).1
            exact ⟨k, u, v, by rw [List.getElem?_append_left k1]; exact h1, by rw [List.getElem?_append_left k2]; exact h2, h3⟩
          · refine ⟨steps i (split n), (climb N E x i (split n) p.dropLast, p.getLast?.getD E), (climb N E y i (split n) q.dropLast, q.getLast?.getD E), ?_, ?_, fun h' => hc (Prod.mk.inj h').1, he⟩
            · rw [← l1, List.getElem?_concat_length]
            · rw [← l2, List.getElem?_concat_length]
        · simp only [hs, if_false] at he ⊢
          have l1 := ways_len N E m x (i - split n) (n - split n) p.dropLast (by omega)
          have l2 := ways_len N E m y (i - split n) (n - split n) q.dropLast (by omega)
          by_cases hc : climb N E x (i - split n) (n - split n) p.dropLast = climb N E y (i - split n) (n - split n) q.dropLast
          · obtain ⟨k, u, v, h1, h2, h3⟩ := ways_bind m x y (i - split n) (n - split n) p.dropLast q.dropLast (by omega) hne hc
            have k1 := (List.getElem?_eq_some_iff.1 h1).1
            have k2 := (List.getElem?_eq_some_iff.1 h2).1
            exact ⟨k, u, v, by rw [List.getElem?_append_left k1]; exact h1, by rw [List.getElem?_append_left k2]; exact h2, h3⟩
          · refine ⟨steps (i - split n) (n - split n), (p.getLast?.getD E, climb N E x (i - split n) (n - split n) p.dropLast), (q.getLast?.getD E, climb N E y (i - split n) (n - split n) q.dropLast), ?_, ?_, fun h' => hc (Prod.mk.inj h').2, he⟩
            · rw [← l1, List.getElem?_concat_length]
            · rw [← l2, List.getElem?_concat_length]
end
end Go.Proofs.YtmebogaenbjmnaaDoor.TreeW
