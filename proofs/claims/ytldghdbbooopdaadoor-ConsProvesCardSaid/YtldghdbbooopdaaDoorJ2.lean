/- Texts of one proof, joined. -/
import Derived.Test.YtldghdbbooopdaaDoorJ1
/- Proofs that one list begins another, in plain words. Nothing of the dump. -/
namespace Go.Proofs.YtldghdbbooopdaaDoor.ConsW
open TreeW
section
variable {D : Type} (N : D → D → D) (E : D)
def partF : Nat → List D → Nat → Bool → List D
  | 0, _, _, _ => []
  | f + 1, l, m, wh => if m = l.length then (if wh then [] else [root N E l]) else
      if m ≤ split l.length then partF f (l.take (split l.length)) m wh ++ [root N E (l.drop (split l.length))]
      else partF f (l.drop (split l.length)) (m - split l.length) false ++ [root N E (l.take (split l.length))]
def part (l : List D) (m : Nat) (wh : Bool) : List D := partF N E (l.length + 1) l m wh
theorem partF_fuel : ∀ (f g : Nat) (l : List D) (m : Nat) (wh : Bool), 1 ≤ m → m ≤ l.length → l.length < f → l.length < g → partF N E f l m wh = partF N E g l m wh
  | 0, _, _, _, _, _, _, h, _ => by omega
  | _ + 1, 0, _, _, _, _, _, _, h => by omega
  | f + 1, g + 1, l, m, wh, h1, h2, hf, hg => by
    unfold partF
    by_cases h : m = l.length
    · rw [if_pos h, if_pos h]
    · rw [if_neg h, if_neg h]
      obtain ⟨a, b, _, _⟩ := split_spec (n := l.length) (by omega)
      have e1 : (l.take (split l.length)).length = split l.length := by rw [List.length_take]; omega
      have e2 : (l.drop (split l.length)).length = l.length - split l.length := List.length_drop
      by_cases hm : m ≤ split l.length
      · rw [if_pos hm, if_pos hm, partF_fuel f g (l.take (split l.length)) m wh h1 (by omega) (by omega) (by omega)]
      · rw [if_neg hm, if_neg hm, partF_fuel f g (l.drop (split l.length)) _ false (by omega) (by omega) (by omega) (by omega)]
theorem part_all (l : List D) (wh : Bool) : part N E l l.length wh = if wh then [] else [root N E l] := by
  unfold part partF; rw [if_pos rfl]
theorem part_two (l : List D) (m : Nat) (wh : Bool) (h1 : 1 ≤ m) (h2 : m < l.length) : part N E l m wh =
    if m ≤ split l.length then part N E (l.take (split l.length)) m wh ++ [root N E (l.drop (split l.length))]
      else part N E (l.drop (split l.length)) (m - split l.length) false ++ [root N E (l.take (split l.length))] := by
  obtain ⟨a, b, _, _⟩ := split_spec (n := l.length) (by omega)
  have e1 : (l.take (split l.length)).length = split l.length := by rw [List.length_take]; omega
  have e2 : (l.drop (split l.length)).length = l.length - split l.length := List.length_drop
  unfold part
  conv => lhs; unfold partF
  rw [if_neg (by omega)]
  by_cases hm : m ≤ split l.length
  · rw [if_pos hm, if_pos hm, partF_fuel N E l.length ((l.take (split l.length)).length + 1) (l.take (split l.length)) m wh h1 (by omega) (by omega) (by omega)]
  · rw [if_neg hm, if_neg hm, partF_fuel N E l.length ((l.drop (split l.length)).length + 1) (l.drop (split l.length)) _ false (by omega) (by omega) (by omega) (by omega)]
/-- The proof. -/
def prove (l : List D) (m : Nat) : List D := if m = 0 then [] else part N E l m true
/-- Both roots that a proof leads to. -/
def rootsF : Nat → Nat → Nat → Bool → D → List D → Option (D × D)
  | 0, _, _, _, _, _ => none
  | f + 1, m, n, wh, one, p => if m = n then (if wh then (if p.length = 0 then some (one, one) else none) else (match p with | [x] => some (x, x) | _ => none)) else
      match p.getLast? with
      | none => none
      | some last => if m ≤ split n then (rootsF f m (split n) wh one p.dropLast).map fun x => (x.1, N x.2 last)
        else (rootsF f (m - split n) (n - split n) false one p.dropLast).map fun x => (N last x.1, N last x.2)
def roots (m n : Nat) (wh : Bool) (one : D) (p : List D) : Option (D × D) := rootsF N (n + 1) m n wh one p
theorem rootsF_fuel : ∀ (f g m n : Nat) (wh : Bool) (one : D) (p : List D), 1 ≤ m → m ≤ n → n < f → n < g → rootsF N f m n wh one p = rootsF N g m n wh one p
  | 0, _, _, _, _, _, _, _, _, h, _ => by omega
  | _ + 1, 0, _, _, _, _, _, _, _, _, h => by omega
  | f + 1, g + 1, m, n, wh, one, p, h1, h2, hf, hg => by
    unfold rootsF
    by_cases h : m = n
    · rw [if_pos h, if_pos h]
    · rw [if_neg h, if_neg h]
      obtain ⟨a, b, _, _⟩ := split_spec (n := n) (by omega)
      cases p.getLast? with
      | none => rfl
      | some last =>
        simp only
        by_cases hm : m ≤ split n
        · rw [if_pos hm, if_pos hm, rootsF_fuel f g m (split n) wh one p.dropLast h1 hm (by omega) (by omega)]
        · rw [if_neg hm, if_neg hm, rootsF_fuel f g (m - split n) (n - split n) false one p.dropLast (by omega) (by omega) (by omega) (by omega)]
theorem roots_all (n : Nat) (wh : Bool) (one : D) (p : List D) : roots N n n wh one p = if wh then (if p.length = 0 then some (one, one) else none) else (match p with | [x] => some (x, x) | _ => none) := by
  unfold roots; conv => lhs; unfold rootsF
  rw [if_pos rfl]
theorem roots_two (m n : Nat) (wh : Bool) (one : D) (p : List D) (h1 : 1 ≤ m) (h2 : m < n) : roots N m n wh one p = match p.getLast? with
      | none => none
      | some last => if m ≤ split n then (roots N m (split n) wh one p.dropLast).map fun x => (x.1, N x.2 last)
        else (roots N (m - split n) (n - split n) false one p.dropLast).map fun x => (N last x.1, N last x.2) := by
  obtain ⟨a, b, _, _⟩ := split_spec (n := n) (by omega)
  unfold roots
  conv => lhs; unfold rootsF
  rw [if_neg (by omega)]
  cases p.getLast? with
  | none => rfl
  | some last =>
    simp only
    by_cases hm : m ≤ split n
    · rw [if_pos hm, if_pos hm, rootsF_fuel N n (split n + 1) m (split n) wh one p.dropLast h1 hm (by omega) (by omega)]
    · rw [if_neg hm, if_neg hm, rootsF_fuel N n (n - split n + 1) (m - split n) (n - split n) false one p.dropLast (by omega) (by omega) (by omega) (by omega)]
/-- P7.3: a proof leads to the roots of its lists. -/
theorem roots_part : ∀ (f : Nat) (l : List D) (m : Nat) (wh : Bool), l.length ≤ f → 1 ≤ m → m ≤ l.length →
    roots N m l.length wh (root N E (l.take m)) (part N E l m wh) = some (root N E (l.take m), root N E l)
  | f, l, m, wh, hf, h1, h2 => by
    by_cases h : m = l.length
    · subst h
      rw [roots_all, part_all, List.take_length]
      cases wh <;> simp
    · obtain ⟨a, b, c, j, hj⟩ := split_spec (n := l.length) (by omega)
      have e1 : (l.take (split l.length)).length = split l.length := by rw [List.length_take]; omega
      have e2 : (l.drop (split l.length)).length = l.length - split l.length := List.length_drop
      cases f with
      | zero => omega
      | succ f =>
        rw [roots_two N m _ wh _ _ h1 (by omega), part_two N E l m wh h1 (by omega)]
        by_cases hm : m ≤ split l.length
        · simp only [hm, if_true, List.getLast?_append, List.getLast?_singleton, Option.some_or, List.dropLast_concat]
          have ih := roots_part f (l.take (split l.length)) m wh (by omega) h1 (by omega)
          rw [e1, List.take_take, Nat.min_eq_left hm] at ih
          rw [ih, root_two N E l (by omega)]
          rfl
        · simp only [hm, if_false, List.getLast?_append, List.getLast?_singleton, Option.some_or, List.dropLast_concat]
          have ih := roots_part f (l.drop (split l.length)) (m - split l.length) false (by omega) (by omega) (by omega)
          rw [e2] at ih
          have hone : ∀ one one' p, roots N (m - split l.length) (l.length - split l.length) false one p = roots N (m - split l.length) (l.length - split l.length) false one' p := by
            intro one one' p
            have key : ∀ (f m n : Nat) (p : List D), rootsF N f m n false one p = rootsF N f m n false one' p := by
              intro f
              induction f with
              | zero => intro m n p; rfl
              | succ f ih =>
                intro m n p
                unfold rootsF
                by_cases hmn : m = n
                · rw [if_pos hmn, if_pos hmn]; rfl
                · rw [if_neg hmn, if_neg hmn]
                  cases p.getLast? with
                  | none => rfl
                  | some last => simp only [ih]
            exact key _ _ _ _
          rw [hone _ (root N E ((l.drop (split l.length)).take (m - split l.length))), ih]
          have ht : l.take m = l.take (split l.length) ++ (l.drop (split l.length)).take (m - split l.length) := by
            rw [show m = split l.length + (m - split l.length) by omega, List.take_add, show split l.length + (m - split l.length) - split l.length = m - split l.length by omega]
          have hr : root N E (l.take m) = N (root N E (l.take (split l.length))) (root N E ((l.drop (split l.length)).take (m - split l.length))) := by
            rw [ht]
            exact root_app N E _ _ (j := j) (by omega) (by rw [List.length_take]; omega) (by rw [List.length_take]; omega)
          rw [root_two N E l (by omega), hr]
          rfl
/-- How many digests a proof has. -/
def consLen : Nat → Nat → Nat → Bool → Nat
  | 0, _, _, _ => 0
  | f + 1, m, n, wh => if m = n then (if wh then 0 else 1) else if m ≤ split n then consLen f m (split n) wh + 1 else consLen f (m - split n) (n - split n) false + 1
/-- P7.4: what leads to roots has that length. -/
theorem roots_len : ∀ (f m n : Nat) (wh : Bool) (one : D) (p : List D) (x : D × D), rootsF N f m n wh one p = some x → p.length = consLen f m n wh
  | 0, _, _, _, _, _, _, h => by simp [rootsF] at h
  | f + 1, m, n, wh, one, p, x, h => by
    unfold rootsF at h
    unfold consLen
    by_cases hmn : m = n
    · rw [if_pos hmn] at h ⊢
      cases wh with
      | true =>
        simp only [if_true] at h ⊢
        by_cases hp : p.length = 0
        · exact hp
        · rw [if_neg hp] at h; cases h
      | false =>
        simp only [Bool.false_eq_true, if_false] at h ⊢
        match p, h with
        | [_], _ => rfl
    · rw [if_neg hmn] at h ⊢
      cases hl : p.getLast? with
      | none => rw [hl] at h; cases h
      | some last =>
        rw [hl] at h
        simp only at h
        have hp : p.length = p.dropLast.length + 1 := by
          cases p with
          | nil => simp at hl
          | cons a q => simp
        by_cases hm : m ≤ split n
        · rw [if_pos hm] at h ⊢
          obtain ⟨y, hy, _⟩ := Option.map_eq_some_iff.1 h
          rw [hp, roots_len f m (split n) wh one p.dropLast y hy]
        · rw [if_neg hm] at h ⊢
          obtain ⟨y, hy, _⟩ := Option.map_eq_some_iff.1 h
          rw [hp, roots_len f _ _ false one p.dropLast y hy]
theorem part_left {l : List D} {m k : Nat} {wh : Bool} (hk : k = split l.length) (h1 : 1 ≤ m) (h2 : m < l.length) (h : m ≤ k) : part N E l m wh = part N E (l.take k) m wh ++ [root N E (l.drop k)] := by
  subst hk; rw [part_two N E l m wh h1 h2, if_pos h]
theorem part_right {l : List D} {m k : Nat} {wh : Bool} (hk : k = split l.length) (h1 : 1 ≤ m) (h2 : m < l.length) (h : ¬ m ≤ k) : part N E l m wh = part N E (l.drop k) (m - k) false ++ [root N E (l.take k)] := by
  subst hk; rw [part_two N E l m wh h1 h2, if_neg h]
theorem part_le : ∀ (f : Nat) (l : List D) (m : Nat) (wh : Bool), l.length ≤ f → 1 ≤ m → m ≤ l.length → (part N E l m wh).length ≤ l.length
  | f, l, m, wh, hf, h1, h2 => by
    by_cases h : m = l.length
    · subst h
      rw [part_all]
      cases wh <;> simp <;> omega
    · obtain ⟨a, b, _, _⟩ := split_spec (n := l.length) (by omega)
      have e1 : (l.take (split l.length)).length = split l.length := by rw [List.length_take]; omega
      have e2 : (l.drop (split l.length)).length = l.length - split l.length := List.length_drop
      cases f with
      | zero => omega
      | succ f =>
        by_cases hm : m ≤ split l.length
        · rw [part_left N E rfl h1 (by omega) hm, List.length_append]
          have := part_le f (l.take (split l.length)) m wh (by omega) h1 (by omega)
          simp; omega
        · rw [part_right N E rfl h1 (by omega) hm, List.length_append]
          have := part_le f (l.drop (split l.length)) (m - split l.length) false (by omega) (by omega) (by omega)
          simp; omega
theorem roots_true (n : Nat) (one : D) (p : List D) : roots N n n true one p = if p.length = 0 then some (one, one) else none := by rw [roots_all]; simp
theorem roots_one (n : Nat) (one x : D) : roots N n n false one [x] = some (x, x) := by rw [roots_all]; simp
theorem roots_not (n : Nat) (one : D) (p : List D) (h : p.length ≠ 1) : roots N n n false one p = none := by
  rw [roots_all]
  match p, h with
  | [], _ => rfl
  | [_], h => exact absurd rfl h
  | _ :: _ :: _, _ => rfl
theorem roots_nil {m n : Nat} {wh : Bool} {one : D} (h1 : 1 ≤ m) (h2 : m < n) : roots N m n wh one [] = none := by rw [roots_two N m n wh one [] h1 h2]; rfl
theorem roots_left {m n k : Nat} {wh : Bool} {one d : D} {p : List D} (hk : k = split n) (h1 : 1 ≤ m) (h2 : m < n) (h : m ≤ k) : roots N m n wh one (p ++ [d]) = (roots N m k wh one p).map fun x => (x.1, N x.2 d) := by
  subst hk; rw [roots_two N m n wh one _ h1 h2, List.getLast?_concat, List.dropLast_concat]; simp only [h, if_true]
theorem roots_right {m n k : Nat} {wh : Bool} {one d : D} {p : List D} (hk : k = split n) (h1 : 1 ≤ m) (h2 : m < n) (h : ¬ m ≤ k) : roots N m n wh one (p ++ [d]) = (roots N (m - k) (n - k) false one p).map fun x => (N d x.1, N d x.2) := by
  subst hk; rw [roots_two N m n wh one _ h1 h2, List.getLast?_concat, List.dropLast_concat]; simp only [h, if_false]
/-- Is a proof accepted? (Of digests all.) -/
def accept (m n : Nat) (one two : D) (p : List D) : Prop := if m = 0 then p = [] ∧ one = E else roots N m n true one p = some (one, two)
theorem accept_zero {n : Nat} {one two : D} {p : List D} : accept N E 0 n one two p ↔ p = [] ∧ one = E := by unfold accept; rw [if_pos rfl]
theorem accept_pos {m n : Nat} {one two : D} {p : List D} (h : m ≠ 0) : accept N E m n one two p ↔ roots N m n true one p = some (one, two) := by unfold accept; rw [if_neg h]
/-- P7.3. -/
theorem accept_back (l : List D) (m : Nat) (h : m ≤ l.length) : accept N E m l.length (root N E (l.take m)) (root N E l) (prove N E l m) := by
  by_cases h0 : m = 0
  · subst h0
    exact (accept_zero N E).2 ⟨rfl, rfl⟩
  · rw [accept_pos N E h0]
    unfold prove; rw [if_neg h0]
    exact roots_part N E l.length l m true (Nat.le_refl _) (by omega) h
/-- P7.4. -/
theorem accept_len {m n : Nat} {one two one' two' : D} {p q : List D} (hp : accept N E m n one two p) (hq : accept N E m n one' two' q) : p.length = q.length := by
  by_cases h0 : m = 0
  · subst h0
    rw [((accept_zero N E).1 hp).1, ((accept_zero N E).1 hq).1]
  · rw [accept_pos N E h0] at hp hq
    rw [roots_len N (n + 1) m n true one p _ hp, roots_len N (n + 1) m n true one' q _ hq]
/-- All of a list is its own beginning; and with nothing else. -/
theorem accept_all (n : Nat) (r : D) (hr : n = 0 → r = E) : accept N E n n r r [] := by
  by_cases h0 : n = 0
  · subst h0; exact (accept_zero N E).2 ⟨rfl, hr rfl⟩
  · rw [accept_pos N E h0, roots_all]; simp
theorem accept_all_no (n : Nat) (one two x : D) : ¬ accept N E n n one two [x] := by
  by_cases h0 : n = 0
  · subst h0; rw [accept_zero]; simp
  · rw [accept_pos N E h0, roots_all]; simp
theorem accept_none_no (n : Nat) (one two x : D) : ¬ accept N E 0 n one two [x] := by rw [accept_zero]; simp
end
end Go.Proofs.YtldghdbbooopdaaDoor.ConsW

/- tree: root. -/
namespace Go.Proofs.YtldghdbbooopdaaDoor.TrW
open Go.RowKit TreeW
open ShaW Sha
theorem take_snoc {ss : List ByteArray} {j : Nat} {s : ByteArray} (hs : ss[j]? = some s) : ss.take (j + 1) = ss.take j ++ [s] := by
  rw [List.take_add_one, hs]; rfl
theorem push_full {ss st : List ByteArray} {j : Nat} {s : ByteArray} (h : Full nd ed (ss.take j) st) (hs : ss[j]? = some s) : Mid nd ed (ss.take (j + 1)) (j + 1) (st ++ [s]) := by
  rw [take_snoc hs]
  have hj := (List.getElem?_eq_some_iff.1 hs).1
  have e : (ss.take j).length = j := by rw [List.length_take]; omega
  have := h.push s
  rwa [e] at this
/-- Each on the stack is a digest. -/
theorem digs_two {st : List ByteArray} {x y : ByteArray} (h : Digs (st ++ [x, y])) : Digs st ∧ x.size = 32 ∧ y.size = 32 :=
  ⟨fun z hz => h z (List.mem_append_left _ hz), h x (by simp), h y (by simp)⟩
theorem digs_join {st : List ByteArray} {x y : ByteArray} (h : Digs (st ++ [x, y])) : Digs (st ++ [nd x y]) := by
  intro z hz
  rcases List.mem_append.1 hz with hz | hz
  · exact h z (List.mem_append_left _ hz)
  · simp at hz; subst hz; exact nd_size _ _
theorem digs_push {st : List ByteArray} {s : ByteArray} (h : Digs st) (hs : s.size = 32) : Digs (st ++ [s]) := by
  intro z hz
  rcases List.mem_append.1 hz with hz | hz
  · exact h z hz
  · simp at hz; subst hz; exact hs
set_option maxRecDepth 1000000 in
set_option maxHeartbeats 2000000 in
theorem root_any (A : Option Addr) (l c : Nat) (ss : List ByteArray) (w : World) (hT : Tab w) (hl : ss.length = l) (hs : Sl w A (scells ss)) (hd : Digs ss) (hl40 : l ≤ 1099511627776) :
    Calls Tryd.prog 40 #[.slice A l c] w fun e w' => e = .returned (.string (rt ss)) ∧ Below w.heap.size w w' := by
  have hpos := hT.pos
  have HT := Lib.hid (fun W (hb : Below w.heap.size w W) => hT.below hb hpos)
  have HL := Lib.hid hl
  have HD := Lib.hid hd
  have h0 : Below w.heap.size w w := Below.refl _ _
  by_cases hz : l = 0
  · have HZ : Hid (rt ss = ed) := by show _ = _; rw [List.eq_nil_of_length_eq_zero (by omega : ss.length = 0)]; rfl
    subst hz
    clear hl hd hs
    go_enter Tryd.func40, Tryd.ntmps40
    go_wp2_with fail
    refine (sum_wide none 0 0 [] _ hT rfl Sl.nil (by omega) (by omega) (by omega)).mono ?_
    rintro e w1 ⟨rfl, hb1⟩
    go_wp2_with fail
    go_ret
    exact ⟨by rw [HZ.out]; rfl, hb1⟩
  have hpos0 : ((l : Int) == 0) = false := by simpa using hz
  clear hl hd hT hpos
  go_enter Tryd.func40, Tryd.ntmps40
  go_wp2_with fail
  go_loopw [3, 4, 5, 12] (fun v _ _ i wr => ∃ (j : Nat) (st : List ByteArray), j ≤ l ∧ i = .int .i64 (j : Int) ∧ Hid (Full nd ed (ss.take j) st) ∧ OwS w.heap.size wr v st ∧ Hid (Digs st) ∧ Below w.heap.size w wr) (fun _ _ _ i _ => l - (intOf i).toNat)
  case atStart => exact ⟨0, [], by omega, rfl, Full.nil, OwS.nil _ _, fun x hx => by simp at hx, h0⟩
  case round =>
    clear h0
    obtain ⟨j, st, hj, rfl, HF, hown, HSD, hbel⟩ := hrel
    by_cases hlt : j < l
    · obtain ⟨b, o, rfl, hblt, hcell⟩ := hs.get (j := j) (by rw [scells_len, HL.out]; exact hlt)
      have hc0 := (hbel.cell (p := ⟨b, o + j, none⟩) hblt).trans (hcell j _ (scells_get ss j (by rw [HL.out]; exact hlt)))
      have hget := get_of (ss := ss) (j := j) (by rw [HL.out]; exact hlt)
      obtain ⟨s, hsj⟩ : ∃ s, ss.getD j ⟨#[]⟩ = s := ⟨_, rfl⟩
      rw [hsj] at hc0 hget
      have HM := Lib.hid (push_full HF.out hget)
      have HSD1 := Lib.hid (digs_push HSD.out (HD.out s (List.mem_of_getElem? hget)))
      have hlen := HF.out.len
      have hlt2 : st.length ≤ j := by rw [List.length_take] at hlen; omega
      obtain ⟨m, hm⟩ : ∃ m, m = st.length := ⟨_, rfl⟩
      have HMM := Lib.hid hm
      rw [← hm] at hlt2
      unfold OwS at hown
      rw [← hm] at hown
      have hsl : ∀ (W : World), Sl (W.alloc (.cells #[.string s] 9)) (some ⟨W.heap.size, 0, none⟩) (scells [s]) := fun W => new_str W s
      have HSL := Lib.hid hsl
      have hbx := hbel.alloc hbel.size (.cells #[.string s] 9)
      clear hcell hget hsj hlen hm hsl
      go_wp2_with (refine wpList_app rfl (.tmp 15) (.tmp 20) 22 rfl strsTy w.heap.size _ m (scells st) rfl (hown.alloc _) _ 1 1 (scells [s]) rfl rfl (HSL.out _) (scells_one _) (by omega) hbx.size ?_; intro v1 w1 hown1 hgr1 hbl1)
      have hb1 := below_app hbx hgr1 (hown.alloc (.cells #[.string s] 9)) (Nat.le_refl _) hbx.size
      have hown2 := snoc_ownS HMM.out hown1
      clear hown hown1 hgr1 hbl1 hbx hbel HF HSD HSL hc0
      go_loopw [3, 5] (fun v i wi => ∃ (n : Nat) (st : List ByteArray), i = .int .i64 (n : Int) ∧ Hid (Mid nd ed (ss.take (j + 1)) n st) ∧ OwS w.heap.size wi v st ∧ Hid (Digs st) ∧ Below w.heap.size w wi) (fun _ i _ => (intOf i).toNat)
      case atStart => exact ⟨j + 1, st ++ [s], by go_num, HM, hown2, HSD1, hb1⟩
      case round =>
        clear HM hown2 HSD1 hb1 HMM hlt2 m st
        obtain ⟨n, st, rfl, HM, hown, HSD, hbel⟩ := hrel
        have hn1 := HM.out.pos
        have hn2 : n ≤ l := by have := hn1.2; rw [List.length_take] at this; have := HL.out; omega
        have hn3 : 1 ≤ n := hn1.1
        clear hn1
        have hand := and_one n (by omega)
        by_cases hev : n % 2 = 0
        · obtain ⟨st', x, y, hst, HM2⟩ := HM.out.even hev
          have hle := HM.out.len
          subst hst
          have HD2 := digs_two HSD.out
          have HMM := Lib.hid HM2
          have HDD := Lib.hid (digs_join HSD.out)
          have h32x := Lib.hid HD2.2.1
          have h32y := Lib.hid HD2.2.2
          have hle2 : st'.length ≤ 1099511627776 := by rw [List.length_append, List.length_take] at hle; have := HL.out; omega
          rw [hev] at hand
          clear HD2 HM2 HSD HM hle
          go_wp2_with fail
          refine (combined_any w.heap.size u3 st' x y _ (fun W hb => HT.out W (hbel.trans hb)) hbel.size hown h32x.out h32y.out hle2).mono ?_
          rintro e w2 ⟨v2, rfl, hown2, hb2⟩
          have bb := hbel.trans hb2
          clear hand hown hb2
          go_wp2_with fail
          go_roundw
          case rel => exact ⟨n / 2, st' ++ [nd x y], by go_num, HMM, hown2, HDD, bb⟩
          case measure => simp [intOf]; omega
        · have hod : n % 2 = 1 := by omega
          have HF := Lib.hid (HM.out.odd hod)
          rw [hod] at hand
          clear hev hod HM
          go_wp2_with fail
          clear hand
          go_roundw
          case rel => exact ⟨j + 1, st, by omega, by go_num, HF, hown, HSD, hbel⟩
          case measure => simp [intOf]; omega
    · have HFF : Hid (Full nd ed ss st) := by
        have := HF.out
        rwa [List.take_of_length_le (by rw [HL.out]; omega)] at this
      have HLA := Lib.hid (HFF.out.last (fun h => hz (by rw [← HL.out, h]; rfl)))
      clear HF HFF
      go_wp2_with fail
      go_loopw [3] (fun v wi => ∃ st : List ByteArray, Hid (Last nd ed ss st) ∧ OwS w.heap.size wi v st ∧ Hid (Digs st) ∧ st.length ≤ l ∧ Below w.heap.size w wi) (fun v _ => slLen v)
      case atStart => exact ⟨st, HLA, hown, HSD, by have := (HLA.out).len; have := HL.out; omega, hbel⟩
      case round =>
        clear HLA hown HSD hbel st
        obtain ⟨st, HLA, hown, HSD, hle, hbel⟩ := hrel
        by_cases h2 : 2 ≤ st.length
        · obtain ⟨st', x, y, hst, HM2⟩ := HLA.out.more h2
          subst hst
          have HD2 := digs_two HSD.out
          have HMM := Lib.hid HM2
          have HDD := Lib.hid (digs_join HSD.out)
          have h32x := Lib.hid HD2.2.1
          have h32y := Lib.hid HD2.2.2
          have hown0 := hown
          obtain ⟨A', c', rfl, _, _, _, _⟩ := hown.slice
          obtain ⟨m, hm⟩ : ∃ m, (st' ++ [x, y]).length = m := ⟨_, rfl⟩
          rw [hm] at hown0 h2 hle ⊢
          have hm' : st'.length + 2 = m := by rw [← hm, List.length_append]; rfl
          have HM' := Lib.hid hm'
          have hgt : (1 : Int) < (m : Int) := by omega
          clear HD2 HM2 HSD HLA hown hm hm'
          go_wp2_with fail
          refine (combined_any w.heap.size (.slice A' m c') st' x y _ (fun W hb => HT.out W (hbel.trans hb)) hbel.size hown0 h32x.out h32y.out (by have := HM'.out; omega)).mono ?_
          rintro e w2 ⟨v2, rfl, hown2, hb2⟩
          have bb := hbel.trans hb2
          clear hown0 hb2
          have hown3 := hown2
          obtain ⟨A2, c2, rfl, _, _, _, _⟩ := hown2.slice
          have hl2 : (st' ++ [nd x y]).length = st'.length + 1 := by rw [List.length_append]; rfl
          rw [hl2] at hown3 ⊢
          have HL2 := Lib.hid hl2
          clear hown2 hl2
          go_wp2_with fail
          go_roundw
          case rel => exact ⟨st' ++ [nd x y], HMM, hown3, HDD, by rw [HL2.out]; have := HM'.out; omega, bb⟩
          case measure => simp [slLen]; have := HM'.out; omega
        · have h1 : st.length = 1 := by have := HLA.out.pos; omega
          have HS := Lib.hid (HLA.out.one h1)
          obtain ⟨A', c', rfl, hsl, _, _, _⟩ := hown.slice
          rw [h1]
          rw [HS.out] at hsl
          clear hown HLA h2 h1
          obtain ⟨b', o', rfl, _, hcell⟩ := hsl.get (j := 0) (by simp [scells])
          have hc0 : wr.cell? ⟨b', o', none⟩ = some (.string (root nd ed ss)) := hcell 0 _ rfl
          clear hcell hsl
          go_wp2_with fail
          go_ret
          exact ⟨rfl, hbel⟩
end Go.Proofs.YtldghdbbooopdaaDoor.TrW

/- Arguments [][]byte read as lists of lists. Nothing of the dump. -/
namespace Go.Proofs.YtldghdbbooopdaaDoor
open Go.ChangeShapes Go.WideShapes Go.ChangeAt Go.RowKit Go.Deep
/-- Slices of bytes that read so, each within its own room. -/
def RowsAt (w : World) (vs : List Value) (bss : List (List UInt8)) : Prop :=
  vs.length = bss.length ∧ ∀ j, j < bss.length → ∃ B d, vs[j]? = some (.slice B (bss.getD j []).length d) ∧ Sl w B (bcells (bss.getD j [])) ∧ (bss.getD j []).length ≤ d ∧ d ≤ maxLen
theorem RowsAt.below {w w' : World} {vs : List Value} {bss : List (List UInt8)} (h : RowsAt w vs bss) (hb : Below w.heap.size w w') : RowsAt w' vs bss :=
  ⟨h.1, fun j hj => by obtain ⟨B, d, h1, h2, h3⟩ := h.2 j hj; exact ⟨B, d, h1, h2.below hb, h3⟩⟩
theorem RowsAt.nil (w : World) : RowsAt w [] [] := ⟨rfl, fun j hj => by simp at hj⟩
/-- An argument [][]byte as a list of lists of bytes. -/
theorem open_bytess {P : Program} {H : Type} {enc : TypeId × Value → H} {W : World} {t e q : TypeId} (ht : P.underlying t = some (.slice e)) (he : P.underlying e = some (.slice q)) (hq : P.underlying q = some (.int .u8))
    (ce : P.cellsOf e = 1) (cq : P.cellsOf q = 1) {a : Option Addr} {l c : Nat} {d : DataW H} {p : List MemPlace} (h : DataW.Trod enc P W 0 (fun _ => true) true t (.slice a l c) d p) :
    ∃ (bss : List (List UInt8)) (vs : List Value), bss.length = l ∧ Sl W a vs ∧ RowsAt W vs bss ∧ l ≤ c ∧ c ≤ 9223372036854775807 := by
  obtain ⟨fuel, hf⟩ := h
  rcases open_int_rows ht he hq ce cq hf with ⟨hcs, _⟩ | ⟨x, l', c', A, L, C, Z, hcs, _, hl, hm, _, hrow⟩
  · simp [Value.cells] at hcs
    obtain ⟨rfl, rfl, rfl⟩ := hcs
    exact ⟨[], [], rfl, Sl.nil, RowsAt.nil W, Nat.le_refl _, by omega⟩
  · simp [Value.cells] at hcs
    obtain ⟨rfl, rfl, rfl⟩ := hcs
    have hlen : ∀ r, r < c → ((Z r).take (L r)).length = L r := fun r hr => by
      obtain ⟨_, h1, _, h3, _⟩ := hrow r hr
      rw [List.length_take]; omega
    refine ⟨(List.range l).map fun r => asBytes ((Z r).take (L r)), (List.range l).map fun r => .slice (A r) (L r) (C r), by simp, ?_, ⟨by simp, fun j hj => ?_⟩, hl, by unfold maxLen at hm; omega⟩
    · intro hne
      have hpos : 0 < l := by
        rcases Nat.eq_zero_or_pos l with rfl | h
        · exact absurd (by simp) hne
        · exact h
      obtain ⟨b, off, spot⟩ := x
      have hspot : spot = none := by simpa [Addr.add] using World.cell?_spot (hrow 0 (by omega)).1
      subst hspot
      refine ⟨b, off, rfl, fun j u hu => ?_⟩
      have hj : j < l := by simpa using (List.getElem?_eq_some_iff.1 hu).1
      have := (hrow j (by omega)).1
      rw [add_lit] at this
      rw [this, ← hu]
      simp [hj]
    · have hj' : j < l := by simpa using hj
      have e1 : ((List.range l).map fun r => asBytes ((Z r).take (L r))).getD j [] = asBytes ((Z j).take (L j)) := by simp [List.getD, hj']
      obtain ⟨_, h1, h2, h3, h4, h5, h6⟩ := hrow j (by omega)
      rw [e1, asBytes_len, hlen j (by omega)]
      refine ⟨A j, C j, by simp [hj'], ?_, h1, h2⟩
      rcases hA : A j with _ | a'
      · have h0 : C j = 0 := h5 hA
        have : asBytes ((Z j).take (L j)) = [] := List.eq_nil_of_length_eq_zero (by rw [asBytes_len, hlen j (by omega)]; omega)
        rw [this]; exact Sl.nil
      · exact sl_asBytes (fun i hi => (h6 a' hA).2 i (by omega)) (by omega) h4
end Go.Proofs.YtldghdbbooopdaaDoor

/- tree: Range, Root; the parts of a list. -/
namespace Go.Proofs.YtldghdbbooopdaaDoor.TrW
open Go.RowKit TreeW
open ShaW Sha
/-- The part of a list from one place to another. -/
theorem part_sl {w : World} {A : Option Addr} {ss : List ByteArray} {c : Nat} (hs : Sl w A (scells ss)) (f t : Nat) (ht : t ≤ ss.length) (hc : ss.length ≤ c) :
    Sl w (if c = f then A else A.map (·.add f)) (scells ((ss.take t).drop f)) := by
  have := (hs.take t).cut f c (by rw [List.length_take, scells_len]; omega)
  rwa [scells_take, scells_drop] at this
theorem path_le : ∀ (ss : List ByteArray) (i : Nat), (path nd ed ss i).length ≤ ss.length := by
  intro ss
  obtain ⟨m, hm⟩ : ∃ m, ss.length ≤ m := ⟨_, Nat.le_refl _⟩
  induction m generalizing ss with
  | zero => intro i; rw [path_one nd ed ss i (by omega)]; simp
  | succ m ih =>
    intro i
    by_cases h : ss.length < 2
    · rw [path_one nd ed ss i h]; simp
    · obtain ⟨a, b, _, _⟩ := split_spec (n := ss.length) (by omega)
      rw [path_two nd ed ss i (by omega)]
      split
      · rw [List.length_append]
        have := ih (ss.take (split ss.length)) (by rw [List.length_take]; omega) i
        rw [List.length_take] at this
        simp; omega
      · rw [List.length_append]
        have := ih (ss.drop (split ss.length)) (by rw [List.length_drop]; omega) (i - split ss.length)
        rw [List.length_drop] at this
        simp; omega
/-- The two parts of a list, as slices. -/
theorem halves {w : World} {A : Option Addr} {ss : List ByteArray} {l c : Nat} (hl : ss.length = l) (hs : Sl w A (scells ss)) (h2 : 2 ≤ l) (hc : l ≤ c) :
    ∃ (k q c2 : Nat) (A2 : Option Addr), k = split l ∧ 1 ≤ k ∧ k < l ∧ k + q = l ∧ 1 ≤ q ∧ q ≤ c2 ∧ c2 ≤ c ∧ (ss.take k).length = k ∧ (ss.drop k).length = q ∧ Sl w A (scells (ss.take k)) ∧ Sl w A2 (scells (ss.drop k)) ∧
      (∀ w', (Instr.slice 22 (.slice A l c) none (some (.int .i64 (k : Int))) none).run Tryd.prog w' = .ok (.slice A k c) w') ∧
      (∀ w', (Instr.slice 22 (.slice A l c) (some (.int .i64 (k : Int))) none none).run Tryd.prog w' = .ok (.slice A2 q c2) w') := by
  obtain ⟨a, b, _, _⟩ := split_spec h2
  refine ⟨split l, l - split l, c - split l, if c = split l then A else A.map (·.add (split l)), rfl, a, b, by omega, by omega, by omega, by omega, by rw [List.length_take]; omega, by rw [List.length_drop]; omega, ?_, ?_, fun w' => ?_, fun w' => ?_⟩
  · rw [← scells_take]; exact hs.take _
  · rw [← scells_drop]; exact hs.cut _ _ (by rw [scells_len]; omega)
  · exact run_to strsTy w' A l c (split l) .i64 (by omega)
  · exact run_from strsTy w' A l c (split l) .i64 (by omega)
set_option maxHeartbeats 1000000 in
theorem range_ok (A : Option Addr) (l c : Nat) (ss : List ByteArray) (f t : Nat) (w : World) (hT : Tab w) (hl : ss.length = l) (hs : Sl w A (scells ss)) (hlc : l ≤ c) (hl40 : l ≤ 1099511627776) (hft : f ≤ t) (ht : t ≤ l) (hd : Digs ((ss.take t).drop f)) :
    Calls Tryd.prog 27 #[.slice A l c, .int .i64 (f : Int), .int .i64 (t : Int)] w fun e w' => e = .returned (.tuple #[.string (rt ((ss.take t).drop f)), .int .i64 0]) ∧ Below w.heap.size w w' := by
  have hp := part_sl (c := c) hs f t (by omega) (by omega)
  have hlen : ((ss.take t).drop f).length = t - f := by rw [List.length_drop, List.length_take]; omega
  have hpt := fun w' => run_part (P := Tryd.prog) strsTy w' A l c f t .i64 .i64 hft (by omega)
  have HDY : Hid (decide (Digs ((ss.take t).drop f)) = true) := decide_eq_true hd
  have HD := Lib.hid hd
  have HLN := Lib.hid hlen
  obtain ⟨A2, hA2⟩ : ∃ A2, A2 = (if c = f then A else A.map (·.add f)) := ⟨_, rfl⟩
  rw [← hA2] at hp
  simp only [← hA2] at hpt
  obtain ⟨q, hq⟩ : ∃ q, q = t - f := ⟨_, rfl⟩
  obtain ⟨c2, hc2⟩ : ∃ c2, c2 = c - f := ⟨_, rfl⟩
  simp only [← hq, ← hc2] at hpt
  have HQ : Hid (((ss.take t).drop f).length = q) := by show _ = _; rw [hlen, hq]
  have hq40 : q ≤ 1099511627776 := by omega
  have k1 : ¬ (f : Int) < 0 := by omega
  have k2 : ¬ (f : Int) > (t : Int) := by omega
  have k3 : ¬ (t : Int) > (l : Int) := by omega
  clear hl hs hd hlen hA2 hq hc2 HLN
  go_enter Tryd.func27, Tryd.ntmps27
  go_wp2_with fail
  refine (digests_any A2 q c2 _ _ HQ.out hp (by omega)).mono ?_
  rintro e w1 ⟨rfl, rfl⟩
  rw [HDY.out]
  go_wp2_with fail
  refine (root_any A2 q c2 _ _ hT HQ.out hp HD.out hq40).mono ?_
  rintro e w1 ⟨rfl, hb1⟩
  go_wp2_with fail
  go_ret2
  exact ⟨rfl, hb1⟩
set_option maxHeartbeats 1000000 in
theorem range_bad (A : Option Addr) (l c : Nat) (ss : List ByteArray) (f t : Int) (w : World) (hl : ss.length = l) (hs : Sl w A (scells ss)) (hlc : l ≤ c) (hl40 : l ≤ 1099511627776) (h : f < 0 ∨ t < f ∨ (l : Int) < t ∨ ¬ Digs ((ss.take t.toNat).drop f.toNat)) :
    Calls Tryd.prog 27 #[.slice A l c, .int .i64 f, .int .i64 t] w fun e w' => e = .returned (.tuple #[.string ⟨#[]⟩, .int .i64 1]) ∧ w = w' := by
  by_cases h1 : f < 0
  · clear h
    go_enter Tryd.func27, Tryd.ntmps27
    go_wp2_with fail
    go_ret2
    exact ⟨rfl, rfl⟩
  by_cases h2 : f > t
  · clear h
    go_enter Tryd.func27, Tryd.ntmps27
    go_wp2_with fail
    go_ret2
    exact ⟨rfl, rfl⟩
  by_cases h3 : t > (l : Int)
  · clear h
    go_enter Tryd.func27, Tryd.ntmps27
    go_wp2_with fail
    go_ret2
    exact ⟨rfl, rfl⟩
  obtain ⟨f, rfl⟩ : ∃ n : Nat, f = n := ⟨f.toNat, by omega⟩
  obtain ⟨t, rfl⟩ : ∃ n : Nat, t = n := ⟨t.toNat, by omega⟩
  have hd : ¬ Digs ((ss.take t).drop f) := by
    rcases h with h | h | h | h
    · omega
    · omega
    · omega
    · simpa using h
  have hp := part_sl (c := c) hs f t (by omega) (by omega)
  have hlen : ((ss.take t).drop f).length = t - f := by rw [List.length_drop, List.length_take]; omega
  have hpt := fun w' => run_part (P := Tryd.prog) strsTy w' A l c f t .i64 .i64 (by omega) (by omega)
  have HDN : Hid (decide (Digs ((ss.take t).drop f)) = false) := decide_eq_false hd
  obtain ⟨A2, hA2⟩ : ∃ A2, A2 = (if c = f then A else A.map (·.add f)) := ⟨_, rfl⟩
  rw [← hA2] at hp
  simp only [← hA2] at hpt
  obtain ⟨q, hq⟩ : ∃ q, q = t - f := ⟨_, rfl⟩
  obtain ⟨c2, hc2⟩ : ∃ c2, c2 = c - f := ⟨_, rfl⟩
  simp only [← hq, ← hc2] at hpt
  have HQ : Hid (((ss.take t).drop f).length = q) := by show _ = _; rw [hlen, hq]
  have hq40 : q ≤ 1099511627776 := by omega
  clear hl hs hd hlen hA2 hq hc2 h
  go_enter Tryd.func27, Tryd.ntmps27
  go_wp2_with fail
  refine (digests_any A2 q c2 _ _ HQ.out hp (by omega)).mono ?_
  rintro e w1 ⟨rfl, rfl⟩
  rw [HDN.out]
  go_wp2_with fail
  go_ret2
  exact ⟨rfl, rfl⟩
theorem all_part (ss : List ByteArray) (l : Nat) (h : ss.length = l) : (ss.take l).drop 0 = ss := by rw [List.drop_zero, List.take_of_length_le (by omega)]
theorem Root_ok (A : Option Addr) (l c : Nat) (ss : List ByteArray) (w : World) (hT : Tab w) (hl : ss.length = l) (hs : Sl w A (scells ss)) (hlc : l ≤ c) (hl40 : l ≤ 1099511627776) (hd : Digs ss) :
    Calls Tryd.prog 18 #[.slice A l c] w fun e w' => e = .returned (.tuple #[.string (rt ss), .int .i64 0]) ∧ Below w.heap.size w w' := by
  have HE := Lib.hid (all_part ss l hl)
  have HL := Lib.hid hl
  clear hl
  go_enter Tryd.func18, Tryd.ntmps18
  go_wp2_with fail
  refine (range_ok A l c ss 0 l _ hT HL.out hs hlc hl40 (by omega) (by omega) (by rw [HE.out]; exact hd)).mono ?_
  rw [HE.out]
  rintro e w1 ⟨rfl, hb1⟩
  go_wp2_with fail
  go_ret2
  exact ⟨rfl, hb1⟩
theorem Root_bad (A : Option Addr) (l c : Nat) (ss : List ByteArray) (w : World) (hl : ss.length = l) (hs : Sl w A (scells ss)) (hlc : l ≤ c) (hl40 : l ≤ 1099511627776) (hd : ¬ Digs ss) :
    Calls Tryd.prog 18 #[.slice A l c] w fun e w' => e = .returned (.tuple #[.string ⟨#[]⟩, .int .i64 1]) ∧ w = w' := by
  have HE := Lib.hid (all_part ss l hl)
  have HL := Lib.hid hl
  have HDD := Lib.hid hd
  clear hl hd
  go_enter Tryd.func18, Tryd.ntmps18
  go_wp2_with fail
  refine (range_bad A l c ss 0 l _ HL.out hs hlc hl40 (.inr (.inr (.inr (by simpa [List.take_of_length_le (Nat.le_of_eq HL.out)] using HDD.out))))).mono ?_
  rintro e w1 ⟨rfl, rfl⟩
  go_wp2_with fail
  go_ret2
  exact ⟨rfl, rfl⟩
end Go.Proofs.YtldghdbbooopdaaDoor.TrW

/- rubrickref03: Bytes. -/
namespace Go.Proofs.YtldghdbbooopdaaDoor.SealW
open Go.RowKit
set_option maxRecDepth 100000 in
set_option maxHeartbeats 1000000 in
theorem refBytes_new (k : UInt8) (B : Option Addr) (l d : Nat) (bs : List UInt8) (w : World) (hl : bs.length = l) (hb : Sl w B (bcells bs)) (h45 : l ≤ 35184372088832) :
    Calls Tryd.prog 50 #[.int .i64 (ub k), .slice B l d] w fun e w' => ∃ A' c', e = .returned (.slice A' (l + 1) c') ∧ Sl w' A' (bcells (k :: bs)) ∧ l + 1 ≤ c' ∧ c' ≤ maxLen ∧ (∀ b o s, A' = some ⟨b, o, s⟩ → w.heap.size ≤ b) ∧ Below w.heap.size w w' := by
  have HL : Hid (bs.length = l) := hl
  have h0 : Below w.heap.size w (w.alloc (.cells (bcells [k]).toArray 5)) := (Below.refl _ _).alloc (Nat.le_refl _) _
  have o0 := own_lit w w.heap.size 5 (bcells [k]) 1 rfl (Nat.le_refl _) (by omega)
  have k0 := ub_nn k
  have k1 := ub_lt k
  have kw : IntKind.u8.wrap (ub k) = ub k := IntWalk.u8_in _ (by omega)
  clear hl
  go_enter Tryd.func50, Tryd.ntmps50
  go_wp2_with fail
  go_loopw [5, 6] (fun v i wr => ∃ j : Nat, j ≤ l ∧ i = .int .i64 j ∧ wr.ownsRow w.heap.size 5 1 v (j + 1) (bcells (k :: bs.take j)) ∧ Below w.heap.size w wr)
    (fun _ i _ => l - (intOf i).toNat)
  case atStart => exact ⟨0, by omega, rfl, o0, h0⟩
  case round =>
    clear o0 h0 kw k0 k1
    obtain ⟨j, hj, rfl, hown, hbel⟩ := hrel
    by_cases hlt : j < l
    · obtain ⟨b, o, rfl, hblt, hcell⟩ := hb.get (j := j) (by rw [bcells_len, HL.out]; exact hlt)
      have hcw := (hbel.cell (p := ⟨b, o + j, none⟩) hblt).trans (hcell j _ (bcells_get bs j (by rw [HL.out]; exact hlt)))
      have HX : Hid (bs.take (j + 1) = bs.take j ++ [bs.getD j 0]) := by
        show _ = _
        rw [List.take_add_one]
        simp [HL.out, hlt]
      clear hcell
      generalize bs.getD j 0 = x at *
      have hsl : ∀ (W : World), Sl (W.alloc (.cells #[.int .u8 (ub x)] 5)) (some ⟨W.heap.size, 0, none⟩) (bcells [x]) := fun W => Sl.of_at_all (At.new_ _ _ 5 (bcells [x]) rfl)
      have HSL : Hid (∀ (W : World), Sl (W.alloc (.cells #[.int .u8 (ub x)] 5)) (some ⟨W.heap.size, 0, none⟩) (bcells [x])) := hsl
      have hbx := hbel.alloc hbel.size (.cells #[.int .u8 (ub x)] 5)
      clear hsl
      go_wp2_with (refine wpList_app rfl (.tmp 16) (.tmp 21) 41 rfl bytesTy w.heap.size u5 (j + 1) (bcells (k :: bs.take j)) rfl (hown.alloc _) _ 1 1 (bcells [x]) rfl rfl (HSL.out _) (bcells_one _) (by omega) hbx.size ?_; intro v1 w1 hown1 hgr1 hbl1)
      have hb1 := below_app hbx hgr1 (hown.alloc (.cells #[.int .u8 (ub x)] 5)) (Nat.le_refl _) hbx.size
      go_roundw
      case rel =>
        refine ⟨j + 1, by omega, by go_num, ?_, hb1⟩
        rw [HX.out, ← List.cons_append, ← bcells_app]; exact hown1
      case measure => simp [intOf]; omega
    · have hjn : j = l := by omega
      have hfl : bs.take j = bs := List.take_of_length_le (by rw [HL.out]; omega)
      rw [hfl, hjn] at hown
      obtain ⟨A', c', rfl, hsl, hc', _, hm', ha'⟩ := own_slice hown
      clear hown hfl
      go_wp2_with fail
      go_ret
      exact ⟨A', c', rfl, hsl, hc', hm', ha', hbel⟩
theorem refBytes_any (k : UInt8) (B : Option Addr) (l d : Nat) (bs : List UInt8) (w : World) (hl : bs.length = l) (hb : Sl w B (bcells bs)) (h45 : l ≤ 35184372088832) :
    Calls Tryd.prog 50 #[.int .i64 (ub k), .slice B l d] w fun e w' => ∃ A' c', e = .returned (.slice A' (l + 1) c') ∧ Sl w' A' (bcells (k :: bs)) ∧ l + 1 ≤ c' ∧ c' ≤ maxLen ∧ Below w.heap.size w w' :=
  (refBytes_new k B l d bs w hl hb h45).mono fun _ _ ⟨A', c', h1, h2, h3, h4, _, h6⟩ => ⟨A', c', h1, h2, h3, h4, h6⟩
end Go.Proofs.YtldghdbbooopdaaDoor.SealW

/- What the reference's arithmetic comes to: the same words and bytes. Nothing of the dump. -/
namespace Go.Proofs.YtldghdbbooopdaaDoor
namespace Sha
theorem rotr_sum (x : UInt32) (n : Nat) (h : n < 32) : (un x / 2 ^ n + un x * 2 ^ (32 - n) % 4294967296) % 4294967296 = un (rotr x n) := by
  have hx := u32_lt x
  unfold un
  rw [rotr_toNat]
  have e1 : x.toNat >>> n ||| x.toNat <<< (32 - n) % 4294967296 = x.toNat / 2 ^ n + x.toNat * 2 ^ (32 - n) % 4294967296 := by
    rw [Nat.shiftRight_eq_div_pow, Nat.shiftLeft_eq, Nat.or_comm, Nat.add_comm]
    have hp : 4294967296 = 2 ^ (32 - n) * 2 ^ n := by rw [← Nat.pow_add, show 32 - n + n = 32 by omega]
    refine nat_join (32 - n) _ _ ?_ ?_
    · rw [hp, Nat.mul_comm x.toNat, Nat.mul_mod_mul_left, Nat.mul_mod_right]
    · rw [Nat.div_lt_iff_lt_mul (Nat.two_pow_pos _), ← hp]; exact hx
  rw [e1]
  have e2 : x.toNat / 2 ^ n + x.toNat * 2 ^ (32 - n) % 4294967296 < 4294967296 := by
    rw [← e1]
    exact Nat.or_lt_two_pow (n := 32) (Nat.lt_of_le_of_lt (by rw [Nat.shiftRight_eq_div_pow]; exact Nat.div_le_self _ _) hx) (Nat.mod_lt _ (by omega))
  have e3 : ((x.toNat : Int) / 2 ^ n + (x.toNat : Int) * 2 ^ (32 - n) % 4294967296) = ((x.toNat / 2 ^ n + x.toNat * 2 ^ (32 - n) % 4294967296 : Nat) : Int) := by simp
  rw [e3]
  omega
theorem be32_sum (a b c d : UInt8) : un (be32 a b c d) = ub a * 16777216 + ub b * 65536 + ub c * 256 + ub d := by
  have ha := a.toNat_lt
  have hb := b.toNat_lt
  have hc := c.toNat_lt
  have hd := d.toNat_lt
  have e1 := u8_shl a 24 (by omega)
  have e2 := u8_shl b 16 (by omega)
  have e3 := u8_shl c 8 (by omega)
  unfold un ub be32
  rw [UInt32.toNat_or, UInt32.toNat_or, UInt32.toNat_or, show (24 : UInt32) = UInt32.ofNat 24 from rfl, show (16 : UInt32) = UInt32.ofNat 16 from rfl, show (8 : UInt32) = UInt32.ofNat 8 from rfl, e1, e2, e3, UInt8.toNat_toUInt32]
  rw [nat_join 24 (a.toNat * 2 ^ 24) (b.toNat * 2 ^ 16) (by omega) (by omega), nat_join 16 _ (c.toNat * 2 ^ 8) (by omega) (by omega), nat_join 8 _ d.toNat (by omega) (by omega)]
  omega
end Sha
end Go.Proofs.YtldghdbbooopdaaDoor

namespace Go.Proofs.YtldghdbbooopdaaDoor.ShaW
open Go.RowKit
open Sha
set_option maxHeartbeats 1000000 in
theorem right_q (x : UInt32) (z : Int) (w : World) (h : 0 < z ∧ z < 32) :
    Calls Tryd.prog 49 #[.int .u32 (un x), .int .i64 z] w fun e w' => e = .returned (.int .u32 (un (rotr x z.toNat))) ∧ ∃ m, w' = w.drewN m := by
  obtain ⟨n, rfl⟩ := Int.eq_ofNat_of_zero_le (by omega : 0 ≤ z)
  obtain ⟨h1, h2⟩ := h
  have hsum := rotr_sum x n (by omega)
  have e2 : IntKind.i64.wrap (32 - (n : Int)) = 32 - (n : Int) := IntWalk.i64_in _ (by omega)
  have e3 : Op.shift .shr .u32 (un x) .i64 (n : Int) = pure (.int .u32 (un x / 2 ^ n)) := by
    rw [shift_shr_any _ _ _ _ (by omega), show min (n : Int).toNat IntKind.u32.bits = n by simp only [IntKind.bits]; omega]
  have e4 : Op.shift .shl .u32 (un x) .i64 (32 - (n : Int)) = pure (.int .u32 (un x * 2 ^ (32 - n) % 4294967296)) := by
    rw [shift_shl_any _ _ _ _ (by omega), show min (32 - (n : Int)).toNat IntKind.u32.bits = 32 - n by simp only [IntKind.bits]; omega, IntKind.wrap_u32]
  have e5 : IntKind.u32.wrap (un x / 2 ^ n + un x * 2 ^ (32 - n) % 4294967296) = un (rotr x n) := by rw [IntKind.wrap_u32, hsum]
  clear hsum
  go_enter Tryd.func49, Tryd.ntmps49
  go_wp2_with fail
  go_quiet (fail)
  go_wp2_with fail
  go_ret
  refine ⟨ret_int ?_, _, rfl⟩
  rfl
set_option maxRecDepth 100000 in
set_option maxHeartbeats 1000000 in
theorem const_any (w : World) : Calls Tryd.prog 48 #[] w fun e w' => ∃ g, e = .returned (.slice (some ⟨g, 0, none⟩) 64 64) ∧ At w' g 49 (wcells K) ∧ Below w.heap.size w w' := by
  go_enter Tryd.func48, Tryd.ntmps48
  go_wp2_with fail
  go_ret
  exact ⟨_, rfl, At.new_ w _ 49 (wcells K) rfl, (Below.refl _ _).alloc (Nat.le_refl _) _⟩
end Go.Proofs.YtldghdbbooopdaaDoor.ShaW

namespace Go.Proofs.YtldghdbbooopdaaDoor.ShaW
open Go.RowKit
open Sha
theorem own_form {w : World} {base n : Nat} {e : TypeId} {v : Value} {xs : List Value} (h : w.ownsRow base e 1 v n xs) (hn : 0 < n) :
    ∃ g c, v = .slice (some ⟨g, 0, none⟩) n c ∧ n ≤ c ∧ base ≤ g ∧ g < w.heap.size ∧ ∀ j u, xs[j]? = some u → w.cell? ⟨g, j, none⟩ = some u := by
  rcases h.2 with ⟨rfl, hz⟩ | ⟨g, cap, cur, rfl, hb, hg, hnc, _⟩
  · omega
  · refine ⟨g, cap, rfl, hnc, hb, (Array.getElem?_eq_some_iff.1 hg).1, fun j u hu => ?_⟩
    have := h.cells (g := g) rfl j u hu
    rw [add_lit, Nat.zero_add] at this
    exact this
attribute [local go_sem] xor_u and_u or_u add_u add_u' xor_s3 xor_s10
set_option maxRecDepth 100000 in
set_option maxHeartbeats 2000000 in
theorem schedule_any (A : Option Addr) (c : Nat) (bs : List UInt8) (w : World) (hl : bs.length = 64) (hs : Sl w A (bcells bs)) :
    Calls Tryd.prog 47 #[.slice A 64 c] w fun e w' => ∃ g d, e = .returned (.slice (some ⟨g, 0, none⟩) 64 d) ∧ g < w'.heap.size ∧ (∀ j, j < 64 → w'.cell? ⟨g, j, none⟩ = some (.int .u32 (un ((sched bs 48).getD j 0)))) ∧ Below w.heap.size w w' := by
  obtain ⟨b, o, rfl, hbl, hcell⟩ := hs.get (j := 0) (by rw [bcells_len]; omega)
  have HCL : Hid (∀ (wr : World), Below w.heap.size w wr → ∀ j, j < 64 → wr.cell? ⟨b, o + j, none⟩ = some (.int .u8 (ub (bs.getD j 0)))) := by
    intro wr hb j hj
    exact (hb.cell (p := ⟨b, o + j, none⟩) hbl).trans (hcell j _ (bcells_get _ _ (by omega)))
  have HBL : Hid (bs.length = 64) := hl
  clear hcell hl
  go_enter Tryd.func47, Tryd.ntmps47
  go_wp2_with fail
  go_loopw [3, 4] (fun v i wr => ∃ k : Nat, k ≤ 16 ∧ i = .int .i64 (4 * (k : Int)) ∧ wr.ownsRow w.heap.size 49 1 v k (wcells (words bs k)) ∧ Below w.heap.size w wr)
    (fun _ i _ => 64 - (intOf i).toNat)
  case atStart => exact ⟨0, by omega, rfl, World.ownsRow_nil _ _ _ _, Below.refl _ _⟩
  case round =>
    obtain ⟨k, hk, rfl, hown, hbel⟩ := hrel
    by_cases hlt : k < 16
    · have c0 := HCL.out wr hbel (4 * k) (by omega)
      have c1 : wr.cell? ⟨b, o + (4 * k + 1), none⟩ = _ := HCL.out wr hbel (4 * k + 1) (by omega)
      have c2 : wr.cell? ⟨b, o + (4 * k + 2), none⟩ = _ := HCL.out wr hbel (4 * k + 2) (by omega)
      have c3 : wr.cell? ⟨b, o + (4 * k + 3), none⟩ = _ := HCL.out wr hbel (4 * k + 3) (by omega)
      have HW : Hid (words bs (k + 1) = words bs k ++ [be32 (bs.getD (4 * k) 0) (bs.getD (4 * k + 1) 0) (bs.getD (4 * k + 2) 0) (bs.getD (4 * k + 3) 0)]) := rfl
      have HSF : Hid (∀ wx, Below w.heap.size w wx → (wx.cell? ⟨b, o + 4 * k, none⟩ = some (.int .u8 (ub (bs.getD (4 * k) 0))) ∧ wx.cell? ⟨b, o + (4 * k + 1), none⟩ = some (.int .u8 (ub (bs.getD (4 * k + 1) 0))) ∧ wx.cell? ⟨b, o + (4 * k + 2), none⟩ = some (.int .u8 (ub (bs.getD (4 * k + 2) 0))) ∧ wx.cell? ⟨b, o + (4 * k + 3), none⟩ = some (.int .u8 (ub (bs.getD (4 * k + 3) 0))))) :=
        fun wx h => ⟨HCL.out wx h _ (by omega), HCL.out wx h _ (by omega), HCL.out wx h _ (by omega), HCL.out wx h _ (by omega)⟩
      generalize bs.getD (4 * k) 0 = x0 at *
      generalize bs.getD (4 * k + 1) 0 = x1 at *
      generalize bs.getD (4 * k + 2) 0 = x2 at *
      generalize bs.getD (4 * k + 3) 0 = x3 at *
      have b0 := ub_lt x0
      have b1 := ub_lt x1
      have b2 := ub_lt x2
      have b3 := ub_lt x3
      have d0 := ub_nn x0
      have d1 := ub_nn x1
      have d2 := ub_nn x2
      have d3 := ub_nn x3
      have g0 : (0 : Int) ≤ 4 * (k : Int) := by omega
      have g1 : (0 : Int) ≤ 4 * (k : Int) + 1 := by omega
      have g2 : (0 : Int) ≤ 4 * (k : Int) + 2 := by omega
      have g3 : (0 : Int) ≤ 4 * (k : Int) + 3 := by omega
      have l0 : 4 * (k : Int) < 64 := by omega
      have l1 : 4 * (k : Int) + 1 < 64 := by omega
      have l2 : 4 * (k : Int) + 2 < 64 := by omega
      have l3 : 4 * (k : Int) + 3 < 64 := by omega
      have n0 : (4 * (k : Int)).toNat = 4 * k := by omega
      have n1 : (4 * (k : Int) + 1).toNat = 4 * k + 1 := by omega
      have n2 : (4 * (k : Int) + 2).toNat = 4 * k + 2 := by omega
      have n3 : (4 * (k : Int) + 3).toNat = 4 * k + 3 := by omega
      have v1 : IntKind.i64.wrap (4 * (k : Int) + 1) = 4 * (k : Int) + 1 := IntWalk.i64_in _ (by omega)
      have v2 : IntKind.i64.wrap (4 * (k : Int) + 2) = 4 * (k : Int) + 2 := IntWalk.i64_in _ (by omega)
      have v3 : IntKind.i64.wrap (4 * (k : Int) + 3) = 4 * (k : Int) + 3 := IntWalk.i64_in _ (by omega)
      have u0 : IntKind.u32.wrap (ub x0) = ub x0 := IntWalk.u32_in _ (by omega)
      have u1 : IntKind.u32.wrap (ub x1) = ub x1 := IntWalk.u32_in _ (by omega)
      have u2 : IntKind.u32.wrap (ub x2) = ub x2 := IntWalk.u32_in _ (by omega)
      have u3' : IntKind.u32.wrap (ub x3) = ub x3 := IntWalk.u32_in _ (by omega)
      have r0 : IntKind.u32.wrap (ub x0 * 16777216) = ub x0 * 16777216 := IntWalk.u32_in _ (by omega)
      have r1 : IntKind.u32.wrap (ub x1 * 65536) = ub x1 * 65536 := IntWalk.u32_in _ (by omega)
      have r2 : IntKind.u32.wrap (ub x2 * 256) = ub x2 * 256 := IntWalk.u32_in _ (by omega)
      have t1 : IntKind.u32.wrap (ub x0 * 16777216 + ub x1 * 65536) = ub x0 * 16777216 + ub x1 * 65536 := IntWalk.u32_in _ (by omega)
      have t2 : IntKind.u32.wrap (ub x0 * 16777216 + ub x1 * 65536 + ub x2 * 256) = ub x0 * 16777216 + ub x1 * 65536 + ub x2 * 256 := IntWalk.u32_in _ (by omega)
      have t3 : IntKind.u32.wrap (ub x0 * 16777216 + ub x1 * 65536 + ub x2 * 256 + ub x3) = un (be32 x0 x1 x2 x3) := by
        rw [be32_sum]; exact IntWalk.u32_in _ (by omega)
      have hbs := hbel.size
      clear b0 b1 b2 b3 d0 d1 d2 d3
      go_wp2_with fail
      go_region_held3 (fun wx => wx.cell? ⟨b, o + 4 * k, none⟩ = some (.int .u8 (ub x0)) ∧ wx.cell? ⟨b, o + (4 * k + 1), none⟩ = some (.int .u8 (ub x1)) ∧ wx.cell? ⟨b, o + (4 * k + 2), none⟩ = some (.int .u8 (ub x2)) ∧ wx.cell? ⟨b, o + (4 * k + 3), none⟩ = some (.int .u8 (ub x3)))
        (first
          | go_keep
          | exact HSF.out _ hbel2)
        ((refine step_app rfl (.tmp 12) (.tmp 42) 50 rfl wordsTy w.heap.size u3 k _ (by rfl) (hown.alloc _).drew _ 1 1 (wcells [be32 x0 x1 x2 x3]) (by rfl) (by rfl) (Sl.of_at_all (At.new_ wr _ 49 (wcells [be32 x0 x1 x2 x3]) rfl)) (wcells_one _) (by omega) (by simp; omega) ?_; intro v2 w2 hown2 hgr2 hbl2; have hbel2 := below_app ((hbel.alloc hbs (.cells #[.int .u32 (un (be32 x0 x1 x2 x3))] 49)).drew) hgr2 (hown.alloc _).drew (Nat.le_refl _) (by simp; omega)))
      go_simp
      go_wp2_with fail
      clear c0 c1 c2 c3
      go_roundw
      case rel =>
        refine ⟨k + 1, by omega, by go_num, ?_, hbel2⟩
        rw [HW.out, ← wcells_app]; exact hown2
      case measure => simp [intOf]; omega
    · have hk16 : 16 ≤ k := by omega
      have hown0 : wr.ownsRow w.heap.size 49 1 u3 16 (wcells (sched bs 0)) := by
        have e : k = 16 := by omega
        rw [e] at hown; exact hown
      clear hown hlt
      go_wp2_with fail
      obtain ⟨wo, hwo⟩ : ∃ wo : World, wo = wr := ⟨_, rfl⟩
      subst hwo
      go_loopw [3, 5] (fun v i wr => ∃ k : Nat, 16 ≤ k ∧ k ≤ 64 ∧ i = .int .i64 k ∧ wr.ownsRow w.heap.size 49 1 v k (wcells (sched bs (k - 16))) ∧ Below w.heap.size w wr)
        (fun _ i _ => 64 - (intOf i).toNat)
      case atStart => exact ⟨16, by omega, by omega, rfl, hown0, hbel⟩
      case round =>
        clear hown0 hbel hk hk16
        obtain ⟨k, hk1, hk2, rfl, hown, hbel⟩ := hrel
        have HL2 : Hid ((sched bs (k - 16)).length = k) := by show _ = _; rw [sched_len]; omega
        obtain ⟨g, d, rfl, hkd, hgb, hgl, hcel⟩ := own_form hown (by omega)
        by_cases hlt : k < 64
        · have cx : ∀ j, j < k → wr.cell? ⟨g, j, none⟩ = some (.int .u32 (un ((sched bs (k - 16)).getD j 0))) := fun j hj => hcel j _ (wcells_get _ _ (by rw [HL2.out]; exact hj))
          have c16 := cx (k - 16) (by omega)
          have c15 := cx (k - 15) (by omega)
          have c7 := cx (k - 7) (by omega)
          have c2 := cx (k - 2) (by omega)
          have HW : Hid (sched bs (k + 1 - 16) = sched bs (k - 16) ++ [(sched bs (k - 16)).getD (k - 16) 0 + ssig0 ((sched bs (k - 16)).getD (k - 15) 0) + (sched bs (k - 16)).getD (k - 7) 0 + ssig1 ((sched bs (k - 16)).getD (k - 2) 0)]) := by
            show _ = _
            rw [show k + 1 - 16 = (k - 16) + 1 by omega]
            show sched bs (k - 16) ++ [ext (sched bs (k - 16))] = _
            unfold ext; rw [HL2.out]
          generalize (sched bs (k - 16)).getD (k - 16) 0 = x0 at *
          generalize (sched bs (k - 16)).getD (k - 15) 0 = x1 at *
          generalize (sched bs (k - 16)).getD (k - 7) 0 = x2 at *
          generalize (sched bs (k - 16)).getD (k - 2) 0 = x3 at *
          have hbs := hbel.size
          have HCX : Hid (∀ j, j < k → wr.cell? ⟨g, j, none⟩ = some (.int .u32 (un ((sched bs (k - 16)).getD j 0)))) := cx
          clear cx hcel
          have g15 : (0 : Int) ≤ (k : Int) - 15 := by omega
          have h15 : (15 : Int) ≤ (k : Int) := by omega
          have l15 : (k : Int) - 15 < (k : Int) := by omega
          have n15 : ((k : Int) - 15).toNat = k - 15 := by omega
          have v15 : IntKind.i64.wrap ((k : Int) - 15) = (k : Int) - 15 := IntWalk.i64_in _ (by omega)
          have g2 : (0 : Int) ≤ (k : Int) - 2 := by omega
          have h2 : (2 : Int) ≤ (k : Int) := by omega
          have l2 : (k : Int) - 2 < (k : Int) := by omega
          have n2 : ((k : Int) - 2).toNat = k - 2 := by omega
          have v2 : IntKind.i64.wrap ((k : Int) - 2) = (k : Int) - 2 := IntWalk.i64_in _ (by omega)
          have g16 : (0 : Int) ≤ (k : Int) - 16 := by omega
          have h16 : (16 : Int) ≤ (k : Int) := by omega
          have l16 : (k : Int) - 16 < (k : Int) := by omega
          have n16 : ((k : Int) - 16).toNat = k - 16 := by omega
          have v16 : IntKind.i64.wrap ((k : Int) - 16) = (k : Int) - 16 := IntWalk.i64_in _ (by omega)
          have g7 : (0 : Int) ≤ (k : Int) - 7 := by omega
          have h7 : (7 : Int) ≤ (k : Int) := by omega
          have l7 : (k : Int) - 7 < (k : Int) := by omega
          have n7 : ((k : Int) - 7).toNat = k - 7 := by omega
          have v7 : IntKind.i64.wrap ((k : Int) - 7) = (k : Int) - 7 := IntWalk.i64_in _ (by omega)
          go_wp2_with fail
          go_quiet ((go_at_call 49; exact Calls.quiet_of (right_q _ _ _ (by omega))))
          have c16 : (wr.drewN nq).cell? ⟨g, k - 16, none⟩ = some (.int .u32 (un x0)) := c16
          have c2 : (wr.drewN nq).cell? ⟨g, k - 2, none⟩ = some (.int .u32 (un x3)) := c2
          have c7 : (wr.drewN nq).cell? ⟨g, k - 7, none⟩ = some (.int .u32 (un x2)) := c7
          have hbel := below_drewN hbel nq
          have hown := own_drewN hown nq
          have hgl : g < (wr.drewN nq).heap.size := hgl
          have hbs : w.heap.size ≤ (wr.drewN nq).heap.size := hbs
          generalize wr.drewN nq = wr at *
          go_wp2_with fail
          go_quiet ((go_at_call 49; exact Calls.quiet_of (right_q _ _ _ (by omega))))
          have c16 : (wr.drewN nq).cell? ⟨g, k - 16, none⟩ = some (.int .u32 (un x0)) := c16
          have c7 : (wr.drewN nq).cell? ⟨g, k - 7, none⟩ = some (.int .u32 (un x2)) := c7
          have hbel := below_drewN hbel nq
          have hown := own_drewN hown nq
          have hgl : g < (wr.drewN nq).heap.size := hgl
          have hbs : w.heap.size ≤ (wr.drewN nq).heap.size := hbs
          generalize wr.drewN nq = wr at *
          go_wp2_with fail
          have n64 : k + 1 ≤ 64 := by omega
          go_region_law (first
            | (refine step_app rfl (.tmp 88) (.tmp 104) 50 rfl wordsTy w.heap.size (.slice (some ⟨g, 0, none⟩) k d) k _ (by rfl) (hown.alloc _).drew _ 1 1 (wcells [x0 + ssig0 x1 + x2 + ssig1 x3]) (by rfl) (by rfl) (Sl.of_at_all (At.new_ wr _ 49 (wcells [x0 + ssig0 x1 + x2 + ssig1 x3]) rfl)) (wcells_one _) (by omega) (by simp; omega) ?_; intro v2 w2 hown2 hgr2 hbl2))
          all_goals
            have hbel2 := below_app ((hbel.alloc hbs (.cells (wcells [x0 + ssig0 x1 + x2 + ssig1 x3]).toArray 49)).drew) hgr2 (hown.alloc _).drew (Nat.le_refl _) (by simp; omega)
            clear c16 c7
            go_simp
            go_wp2_with fail
            go_roundw
            case rel =>
              refine ⟨k + 1, by omega, by omega, by go_num, ?_, hbel2⟩
              rw [HW.out, ← wcells_app]; exact hown2
            case measure => simp [intOf]; omega
        · have hk64 : 64 ≤ k := by omega
          have e : k = 64 := by omega
          have HC : Hid (∀ j, j < 64 → wr.cell? ⟨g, j, none⟩ = some (.int .u32 (un ((sched bs 48).getD j 0)))) := by
            rw [e] at hcel
            exact fun j hj => hcel j _ (wcells_get _ _ (by rw [sched_len]; exact hj))
          have HE : Hid (k = 64) := e
          clear hcel hown HL2 e
          go_wp2_with fail
          go_ret
          rw [HE.out]
          exact ⟨g, d, rfl, hgl, HC.out, hbel⟩
end Go.Proofs.YtldghdbbooopdaaDoor.ShaW

namespace Go.Proofs.YtldghdbbooopdaaDoor.ShaW
open Go.RowKit
open Sha
attribute [local go_sem] xor_u and_u or_u add_u add_u' not_u
set_option maxRecDepth 100000 in
set_option maxHeartbeats 4000000 in
theorem block_any (s : St) (A B : Option Addr) (c d : Nat) (bs : List UInt8) (w : World) (hl : bs.length = 64) (hs : Sl w A (wcells s.toL)) (hb : Sl w B (bcells bs)) :
    Calls Tryd.prog 36 #[.slice A 8 c, .slice B 64 d] w fun e w' => ∃ g, e = .returned (.slice (some ⟨g, 0, none⟩) 8 8) ∧ At w' g 49 (wcells (compress s bs).toL) ∧ Below w.heap.size w w' := by
  obtain ⟨b, o, rfl, hbl, hcell⟩ := hs.get (j := 0) (by simp [wcells, St.toL])
  have HCL : Hid (∀ (wr : World), Below w.heap.size w wr → ∀ j, j < 8 → wr.cell? ⟨b, o + j, none⟩ = some (.int .u32 (un (s.toL.getD j 0)))) := by
    intro wr hb j hj
    exact (hb.cell (p := ⟨b, o + j, none⟩) hbl).trans (hcell j _ (wcells_get _ _ (by simp [St.toL]; omega)))
  clear hcell hs
  go_enter Tryd.func36, Tryd.ntmps36
  go_wp2_with fail
  refine (schedule_any B d bs w hl hb).mono ?_
  rintro e w1 ⟨gw, dw, rfl, hgw, hcw, hb1⟩
  have HW1 : Hid (∀ j, j < 64 → w1.cell? ⟨gw, j, none⟩ = some (.int .u32 (un ((sched bs 48).getD j 0)))) := hcw
  clear hcw
  go_wp2_with fail
  refine (const_any _).mono ?_
  rintro e W ⟨gk, rfl, hK, hb2⟩
  have hbW := hb1.trans (hb2.mono hb1.size)
  have HW2 : Hid (∀ wr, Below w1.heap.size w1 wr → ∀ j, j < 64 → wr.cell? ⟨gw, j, none⟩ = some (.int .u32 (un ((sched bs 48).getD j 0)))) :=
    fun wr h j hj => (h.cell (p := ⟨gw, j, none⟩) hgw).trans (HW1.out j hj)
  have c0 : W.cell? ⟨b, o, none⟩ = some (.int .u32 (un s.a)) := HCL.out W hbW 0 (by omega)
  have c1 : W.cell? ⟨b, o + 1, none⟩ = some (.int .u32 (un s.b)) := HCL.out W hbW 1 (by omega)
  have c2 : W.cell? ⟨b, o + 2, none⟩ = some (.int .u32 (un s.c)) := HCL.out W hbW 2 (by omega)
  have c3 : W.cell? ⟨b, o + 3, none⟩ = some (.int .u32 (un s.d)) := HCL.out W hbW 3 (by omega)
  have c4 : W.cell? ⟨b, o + 4, none⟩ = some (.int .u32 (un s.e)) := HCL.out W hbW 4 (by omega)
  have c5 : W.cell? ⟨b, o + 5, none⟩ = some (.int .u32 (un s.f)) := HCL.out W hbW 5 (by omega)
  have c6 : W.cell? ⟨b, o + 6, none⟩ = some (.int .u32 (un s.g)) := HCL.out W hbW 6 (by omega)
  have c7 : W.cell? ⟨b, o + 7, none⟩ = some (.int .u32 (un s.h)) := HCL.out W hbW 7 (by omega)
  go_wp2_with fail
  go_quiet (fail)
  clear c0 c1 c2 c3 c4 c5 c6 c7
  have hK := hK.drewN nq
  have hbW := below_drewN hbW nq
  have hb2 := below_drewN hb2 nq
  generalize W.drewN nq = W at *
  go_wp2_with fail
  go_loopw [7, 8, 9, 10, 11, 12, 13, 14, 15] (fun v0 v1 v2 v3 v4 v5 v6 v7 i wr => ∃ k : Nat, k ≤ 64 ∧ i = .int .i64 k ∧ v0 = .int .u32 (un (rounds (sched bs 48) s k).a) ∧ v1 = .int .u32 (un (rounds (sched bs 48) s k).b) ∧ v2 = .int .u32 (un (rounds (sched bs 48) s k).c) ∧ v3 = .int .u32 (un (rounds (sched bs 48) s k).d) ∧ v4 = .int .u32 (un (rounds (sched bs 48) s k).e) ∧ v5 = .int .u32 (un (rounds (sched bs 48) s k).f) ∧ v6 = .int .u32 (un (rounds (sched bs 48) s k).g) ∧ v7 = .int .u32 (un (rounds (sched bs 48) s k).h) ∧ At wr gk 49 (wcells K) ∧ Below w.heap.size w wr ∧ Below w1.heap.size w1 wr)
    (fun _ _ _ _ _ _ _ _ i _ => 64 - (intOf i).toNat)
  case atStart => exact ⟨0, by omega, rfl, rfl, rfl, rfl, rfl, rfl, rfl, rfl, rfl, hK, hbW, hb2⟩
  case round =>
    clear hK hbW hb2
    obtain ⟨k, hk, rfl, rfl, rfl, rfl, rfl, rfl, rfl, rfl, rfl, hK, hbW, hb2⟩ := hrel
    by_cases hlt : k < 64
    · have cw := HW2.out wr hb2 k hlt
      have ck : wr.cell? ⟨gk, k, none⟩ = some (.int .u32 (un (K.getD k 0))) := (hK.cell k).trans (wcells_get _ _ (by rw [K_len]; exact hlt))
      have HR : Hid (rounds (sched bs 48) s (k + 1) = rstep (rounds (sched bs 48) s k) (K.getD k 0) ((sched bs 48).getD k 0)) := rfl
      generalize (sched bs 48).getD k 0 = x0 at *
      generalize K.getD k 0 = x1 at *
      generalize rounds (sched bs 48) s k = r at *
      have g0 : (0 : Int) ≤ (k : Int) := by omega
      have g1 : (k : Int) < 64 := by omega
      go_wp2_with fail
      go_quiet ((go_at_call 49; exact Calls.quiet_of (right_q _ _ _ (by omega))))
      clear cw ck
      have hK := hK.drewN nq
      have hbW := below_drewN hbW nq
      have hb2 := below_drewN hb2 nq
      generalize wr.drewN nq = wr at *
      go_wp2_with fail
      refine (right_q _ _ _ (by omega)).mono ?_
      rintro e w' ⟨rfl, m1, rfl⟩
      have hK := hK.drewN m1
      have hbW := below_drewN hbW m1
      have hb2 := below_drewN hb2 m1
      generalize wr.drewN m1 = wr at *
      go_wp2_with fail
      refine (right_q _ _ _ (by omega)).mono ?_
      rintro e w' ⟨rfl, m2, rfl⟩
      have hK := hK.drewN m2
      have hbW := below_drewN hbW m2
      have hb2 := below_drewN hb2 m2
      generalize wr.drewN m2 = wr at *
      go_wp2_with fail
      refine (right_q _ _ _ (by omega)).mono ?_
      rintro e w' ⟨rfl, m3, rfl⟩
      have hK := hK.drewN m3
      have hbW := below_drewN hbW m3
      have hb2 := below_drewN hb2 m3
      generalize wr.drewN m3 = wr at *
      go_wp2_with fail
      go_roundw
      case rel =>
        refine ⟨k + 1, by omega, by go_num, ?_, ?_, ?_, ?_, ?_, ?_, ?_, ?_, hK, hbW, hb2⟩ <;> rw [HR.out] <;> rfl
      case measure => simp [intOf]; omega
    · have hk3 : 64 ≤ k := by omega
      have HK64 : Hid (k = 64) := by show _ = _; omega
      have c0 : wr.cell? ⟨b, o, none⟩ = some (.int .u32 (un s.a)) := HCL.out wr hbW 0 (by omega)
      have c1 : wr.cell? ⟨b, o + 1, none⟩ = some (.int .u32 (un s.b)) := HCL.out wr hbW 1 (by omega)
      have c2 : wr.cell? ⟨b, o + 2, none⟩ = some (.int .u32 (un s.c)) := HCL.out wr hbW 2 (by omega)
      have c3 : wr.cell? ⟨b, o + 3, none⟩ = some (.int .u32 (un s.d)) := HCL.out wr hbW 3 (by omega)
      have c4 : wr.cell? ⟨b, o + 4, none⟩ = some (.int .u32 (un s.e)) := HCL.out wr hbW 4 (by omega)
      have c5 : wr.cell? ⟨b, o + 5, none⟩ = some (.int .u32 (un s.f)) := HCL.out wr hbW 5 (by omega)
      have c6 : wr.cell? ⟨b, o + 6, none⟩ = some (.int .u32 (un s.g)) := HCL.out wr hbW 6 (by omega)
      have c7 : wr.cell? ⟨b, o + 7, none⟩ = some (.int .u32 (un s.h)) := HCL.out wr hbW 7 (by omega)
      go_wp2_with fail
      refine wp_region_still_tail 40 (by kernel_rfl) (by kernel_rfl) ?_
      simp only [List.take_succ_cons, List.take_zero, List.drop_succ_cons, List.drop_zero]
      repeat still_step
      refine wpStill_nil ?_
      change wpList _ _ _ _ _ wr.drew
      have hbW := hbW.drew
      generalize wr.drew = wr at *
      go_wp2_with fail
      go_ret
      rw [HK64.out]
      exact ⟨_, rfl, At.new_ wr _ 49 (wcells (compress s bs).toL) rfl, hbW.alloc hbW.size _⟩
end Go.Proofs.YtldghdbbooopdaaDoor.ShaW

/- Padding, and the digest block by block. Nothing of the dump. -/
namespace Go.Proofs.YtldghdbbooopdaaDoor
namespace Sha
/-- What is put behind bytes: the mark, zeros, the number of bits. -/
def zc (n : Nat) : Nat := (119 - n % 64) % 64
def padL (bs : List UInt8) : List UInt8 := bs ++ 128 :: zeros (zc bs.length) ++ lenB bs.length 8
def tailB (N : Nat) : Nat → List UInt8
  | 0 => []
  | k + 1 => UInt8.ofNat (8 * N / 256 ^ k) :: tailB N k
theorem tailB_len (N k : Nat) : (tailB N k).length = k := by
  induction k with
  | zero => rfl
  | succ k ih => simp [tailB, ih]
theorem tailB_lenB (N : Nat) : tailB N 8 = lenB N 8 := rfl
theorem padL_len (bs : List UInt8) : (padL bs).length = bs.length + 9 + zc bs.length := by
  simp [padL, zeros_len, lenB_len]; omega
theorem padL_mod (bs : List UInt8) : (padL bs).length % 64 = 0 := by
  rw [padL_len]; unfold zc; omega
/-- The digest is what the padded bytes lead to, block by block. -/
theorem absorb_pad (bs : List UInt8) : (absorb iv (padL bs)).1 = finish (absorb iv bs).1 (absorb iv bs).2 bs.length := by
  unfold padL
  rw [List.append_assoc, absorb_app]
  have hl := absorb_len iv bs
  generalize absorb iv bs = p at *
  obtain ⟨s, r⟩ := p
  simp only at hl ⊢
  unfold finish
  have hz : zc bs.length = (119 - r.length) % 64 := by unfold zc; rw [hl]
  by_cases h : 56 ≤ r.length
  · have hz' : zc bs.length = (63 - r.length) + 56 := by omega
    have hlen : (r ++ 128 :: zeros (63 - r.length)).length = 64 := by simp [zeros_len]; omega
    have hlen2 : (zeros 56 ++ lenB bs.length 8).length = 64 := by simp [zeros_len, lenB_len]
    rw [if_pos h, hz', show zeros (63 - r.length + 56) = zeros (63 - r.length) ++ zeros 56 from (List.replicate_append_replicate ..).symm]
    have e : r ++ (128 :: (zeros (63 - r.length) ++ zeros 56) ++ lenB bs.length 8) = (r ++ 128 :: zeros (63 - r.length)) ++ (zeros 56 ++ lenB bs.length 8) := by simp
    rw [e, absorb_long _ _ (by rw [List.length_append, hlen]; omega), List.take_left' hlen, List.drop_left' hlen, absorb_long _ _ (by rw [hlen2]; omega), List.take_of_length_le (by omega), List.drop_of_length_le (by omega), absorb_short _ _ (by simp)]
  · have hz' : zc bs.length = 55 - r.length := by omega
    have hlen : (r ++ 128 :: zeros (55 - r.length) ++ lenB bs.length 8).length = 64 := by simp [zeros_len, lenB_len]; omega
    rw [if_neg h, hz']
    have e : r ++ (128 :: zeros (55 - r.length) ++ lenB bs.length 8) = r ++ 128 :: zeros (55 - r.length) ++ lenB bs.length 8 := by simp
    rw [e, absorb_long _ _ (by omega), List.take_of_length_le (by omega), List.drop_of_length_le (by omega), absorb_short _ _ (by simp)]
/-- The words behind the first n blocks. -/
def blocksN (l : List UInt8) : Nat → St
  | 0 => iv
  | n + 1 => compress (blocksN l n) ((l.drop (64 * n)).take 64)
theorem absorb_blocks (l : List UInt8) : ∀ n, 64 * n ≤ l.length → absorb iv l = absorb (blocksN l n) (l.drop (64 * n))
  | 0, _ => rfl
  | n + 1, h => by
    rw [absorb_blocks l n (by omega), absorb_long _ _ (by simp; omega), List.drop_drop]
    rfl
theorem blocks_all (l : List UInt8) (h : l.length % 64 = 0) : blocksN l (l.length / 64) = (absorb iv l).1 := by
  rw [absorb_blocks l (l.length / 64) (by omega), absorb_short _ _ (by simp; omega)]
end Sha
end Go.Proofs.YtldghdbbooopdaaDoor

namespace Go.Proofs.YtldghdbbooopdaaDoor.ShaW
open Go.RowKit
open Sha
/-- A literal slice of bytes owns its row. -/
theorem own_lit (w : World) (base : Nat) (e : TypeId) (cs : List Value) (n : Nat) (hn : cs.length = n) (hb : base ≤ w.heap.size) (hm : n ≤ 1000) :
    (w.alloc (.cells cs.toArray e)).ownsRow base e 1 (.slice (some ⟨w.heap.size, 0, none⟩) n n) n cs := by
  have := World.ownsRow_lit (base := base) (e := e) (size := 1) w cs.toArray n hb (by simp only [maxLen]; omega) (by simpa using hn)
  simpa using this
set_option maxRecDepth 100000 in
set_option maxHeartbeats 2000000 in
theorem padded_any (B : Option Addr) (l d : Nat) (bs : List UInt8) (w : World) (hl : bs.length = l) (hb : Sl w B (bcells bs)) (hl40 : l ≤ 1099511627776) :
    Calls Tryd.prog 35 #[.slice B l d] w fun e w' => ∃ A c, e = .returned (.slice A (l + 9 + zc l) c) ∧ Sl w' A (bcells (padL bs)) ∧ l + 9 + zc l ≤ c ∧ Below w.heap.size w w' := by
  have HL : Hid (bs.length = l) := hl
  have hz : zc l < 64 := by unfold zc; omega
  have HZ : Hid (zc l = (119 - l % 64) % 64) := rfl
  clear hl
  generalize zc l = Z at *
  have hr0 : Below w.heap.size w w := Below.refl _ _
  have o0 : (w.alloc (.cells #[] 5)).ownsRow w.heap.size 5 1 (.slice (some ⟨w.heap.size, 0, none⟩) 0 0) 0 [] := own_lit w w.heap.size 5 [] 0 rfl (Nat.le_refl _) (by omega)
  have h0 : Below w.heap.size w (w.alloc (.cells #[] 5)) := hr0.alloc (Nat.le_refl _) _
  go_enter Tryd.func35, Tryd.ntmps35
  go_wp2_with (first
    | (at_builtin; refine wpList_app rfl (.tmp 7) (.tmp 8) 41 rfl bytesTy w.heap.size (.slice (some ⟨w.heap.size, 0, none⟩) 0 0) 0 [] rfl o0 B l d (bcells bs) rfl (by rw [bcells_len]; exact HL.out) (hb.below h0) (bcells_one _) (by omega) (by simp) ?_; intro v1 w1 hown1 hgr1 hbl1; have h1 := below_app h0 hgr1 o0 (Nat.le_refl _) (by simp); simp only [Nat.zero_add, List.nil_append] at hown1; have hs1 := h1.size)
    | (at_builtin; refine wpList_app rfl (.tmp 9) (.tmp 10) 41 rfl bytesTy w.heap.size v1 l (bcells bs) rfl (hown1.alloc _) _ 1 1 (bcells [128]) rfl rfl (Sl.of_at_all (At.new_ w1 _ 5 (bcells [128]) rfl)) (bcells_one _) (by omega) (by simp; omega) ?_; intro v2 w2 hown2 hgr2 hbl2; have h2 := below_app (h1.alloc hs1 (.cells (bcells [128]).toArray 5)) hgr2 (hown1.alloc _) (Nat.le_refl _) (by simp; omega); rw [bcells_app] at hown2))
  clear o0 h0 hown1 hgr1 hgr2 hbl1 hbl2 hr0 hs1
  go_loopw [3] (fun v wr => ∃ m : Nat, l + 1 ≤ m ∧ m ≤ l + 1 + Z ∧ wr.ownsRow w.heap.size 5 1 v m (bcells (bs ++ 128 :: zeros (m - l - 1))) ∧ Below w.heap.size w wr)
    (fun v _ => l + 1 + Z - slLen v)
  case atStart => exact ⟨l + 1, Nat.le_refl _, by omega, by rw [show l + 1 - l - 1 = 0 by omega]; exact hown2, h2⟩
  case round =>
    clear hown2 h2
    obtain ⟨m, hm1, hm2, hown, hbel⟩ := hrel
    obtain ⟨A, c, rfl, hsl, hmc, _, hcm, _⟩ := own_slice hown
    have hbs := hbel.size
    by_cases hlt : m < l + 1 + Z
    · have hne : ((m : Int) % 64 != 56) = true := by
        have : m % 64 ≠ 56 := by have := HZ.out; omega
        simp; omega
      have HX : Hid (bs ++ 128 :: zeros (m + 1 - l - 1) = (bs ++ 128 :: zeros (m - l - 1)) ++ [0]) := by
        show _ = _
        rw [show m + 1 - l - 1 = (m - l - 1) + 1 by omega]
        simp [zeros, List.replicate_succ']
      have hsl0 : Sl (wr.alloc (.cells #[.int .u8 0] 5)) (some ⟨wr.heap.size, 0, none⟩) (bcells [0]) := Sl.of_at_all (At.new_ wr _ 5 (bcells [0]) rfl)
      go_wp2_with (first
        | (at_builtin; refine wpList_app rfl (.tmp 16) (.tmp 17) 41 rfl bytesTy w.heap.size (.slice A m c) m _ rfl (hown.alloc _) _ 1 1 (bcells [0]) rfl rfl hsl0 (bcells_one _) (by omega) (by simp; omega) ?_; intro v2 w2 hown2 hgr2 hbl2))
      have hbel2 := below_app (hbel.alloc hbs _) hgr2 (hown.alloc _) (Nat.le_refl _) (by simp; omega)
      obtain ⟨A2, c2, rfl, _, _⟩ := own_slice hown2
      go_roundw
      case rel =>
        refine ⟨m + 1, by omega, by omega, ?_, hbel2⟩
        rw [HX.out, ← bcells_app]; exact hown2
      case measure => simp [slLen]; omega
    · have hne : ((m : Int) % 64 != 56) = false := by
        have : m % 64 = 56 := by have := HZ.out; omega
        simp; omega
      have HM : Hid (m = l + 1 + Z) := by show _ = _; omega
      go_wp2_with fail
      clear hne
      obtain ⟨OUT, hOUT⟩ : ∃ OUT, OUT = bs ++ 128 :: zeros (m - l - 1) := ⟨_, rfl⟩
      rw [← hOUT] at hown
      have HOUT : Hid (OUT = bs ++ 128 :: zeros Z) := by show _ = _; rw [hOUT, show m - l - 1 = Z by have := HM.out; omega]
      clear hOUT hlt hsl
      obtain ⟨wo, hwo⟩ : ∃ wo : World, wo = wr := ⟨_, rfl⟩
      subst hwo
      go_loopw [4, 5, 6] (fun q t i wr => ∃ (k Q : Nat), k ≤ 8 ∧ i = .int .i64 k ∧ q = .int .u64 (Q : Int) ∧ Hid (Q = 8 * l / 256 ^ k) ∧ Q ≤ 8796093022208 ∧ wr.ownsRow w.heap.size 5 1 t k (bcells (tailB l k)) ∧ wr.ownsRow w.heap.size 5 1 (.slice A m c) m (bcells OUT) ∧ Below w.heap.size w wr)
        (fun _ _ i _ => 8 - (intOf i).toNat)
      case atStart => exact ⟨0, 8 * l, by omega, rfl, congrArg (Value.int .u64) (by omega), by show _ = _; simp, by omega, World.ownsRow_nil _ _ _ _, hown, hbel⟩
      case round =>
        clear hown hbel hbs
        obtain ⟨k, Q, hk, rfl, rfl, HQ, hQ, ht, hown, hbel⟩ := hrel
        obtain ⟨A5, c5, rfl, hs5, _, _⟩ := own_slice ht
        have hbs := hbel.size
        by_cases hlt : k < 8
        · have HT : Hid (tailB l (k + 1) = [UInt8.ofNat Q] ++ tailB l k) := by show _ = _; rw [HQ.out]; rfl
          have hu : ub (UInt8.ofNat Q) = (Q : Int) % 256 := by unfold ub; rw [UInt8.toNat_ofNat']; simp
          have HSL : Hid ((wr.alloc (.cells #[.int .u8 ((Q : Int) % 256)] 5)).ownsRow w.heap.size 5 1 (.slice (some ⟨wr.heap.size, 0, none⟩) 1 1) 1 (bcells [UInt8.ofNat Q])) := by
            have := own_lit wr w.heap.size 5 (bcells [UInt8.ofNat Q]) 1 rfl hbs (by omega)
            unfold Hid
            simpa [bcells, bv, hu] using this
          have HQ2 : Hid (Q / 256 = 8 * l / 256 ^ (k + 1)) := by
            show _ = _; rw [HQ.out, Nat.div_div_eq_div_mul, Nat.pow_succ]
          clear hu
          go_wp2_with (first
            | (at_builtin; refine wpList_app rfl (.tmp 30) (.tmp 31) 41 rfl bytesTy w.heap.size (.slice (some ⟨wr.heap.size, 0, none⟩) 1 1) 1 _ rfl HSL.out A5 k c5 (bcells (tailB l k)) rfl (by rw [bcells_len, tailB_len]) (hs5.alloc _) (bcells_one _) (by omega) (by simp; omega) ?_; intro v2 w2 hown2 hgr2 hbl2))
          have hbel2 := below_app (hbel.alloc hbs _) hgr2 HSL.out (Nat.le_refl _) (by simp; omega)
          have hown3 := (hown.alloc (.cells #[.int .u8 ((Q : Int) % 256)] 5)).kept hgr2 (by
            rcases hob : (Value.slice A m c).ownBlock with _ | b
            · exact .inl rfl
            · right
              have := (hown.lt b hob).2
              simp [Value.ownBlock]; omega)
          go_roundw
          case rel =>
            refine ⟨k + 1, Q / 256, by omega, by go_num, congrArg (Value.int .u64) (by omega), HQ2, by omega, ?_, hown3, hbel2⟩
            rw [HT.out, ← bcells_app, Nat.add_comm k 1]; exact hown2
          case measure => simp [intOf]; omega
        · have hk8 : 8 ≤ k := by omega
          have HK : Hid (k = 8) := by show _ = _; omega
          go_wp2_with (first
            | (at_builtin; refine wpList_app rfl (.tmp 35) (.tmp 36) 41 rfl bytesTy w.heap.size (.slice A m c) m _ rfl hown A5 k c5 (bcells (tailB l k)) rfl (by rw [bcells_len, tailB_len]) hs5 (bcells_one _) (by omega) hbs ?_; intro v2 w2 hown2 hgr2 hbl2))
          have hbel2 := below_app hbel hgr2 hown (Nat.le_refl _) hbs
          obtain ⟨A2, c2, rfl, hsl2, hc2, _⟩ := own_slice hown2
          go_ret
          have e1 : m + k = l + 9 + Z := by have := HM.out; omega
          refine ⟨A2, c2, ?_, ?_, by omega, hbel2⟩
          · rw [← e1]; rfl
          · rw [bcells_app, HOUT.out, HK.out, tailB_lenB] at hsl2
            have hz2 : Z = zc bs.length := by rw [HL.out]; exact HZ.out
            unfold padL
            rw [← hz2, HL.out]; exact hsl2
end Go.Proofs.YtldghdbbooopdaaDoor.ShaW

namespace Go.Proofs.YtldghdbbooopdaaDoor.ShaW
open Go.RowKit
open Sha
theorem sha_blocks (bs : List UInt8) : textB (blocksN (padL bs) ((padL bs).length / 64)).toL = sha bs := by
  rw [blocks_all _ (padL_mod bs), absorb_pad]; rfl
theorem mul64_succ (k : Nat) : 64 * (k : Int) + 64 = 64 * ((k + 1 : Nat) : Int) := by omega
theorem meas64 (L k : Nat) (h : 64 * k + 64 ≤ L) : L - (intOf (.int .i64 (64 * (k : Int) + 64))).toNat < L - (intOf (.int .i64 (64 * (k : Int)))).toNat := by simp only [intOf]; omega
set_option maxRecDepth 100000 in
set_option maxHeartbeats 4000000 in
theorem refSum_any (B : Option Addr) (l d : Nat) (bs : List UInt8) (w : World) (hl : bs.length = l) (hb : Sl w B (bcells bs)) (hl40 : l ≤ 1099511627776) :
    Calls Tryd.prog 24 #[.slice B l d] w fun e w' => e = .returned (.string ⟨(sha bs).toArray⟩) ∧ Below w.heap.size w w' := by
  have HL : Hid (bs.length = l) := hl
  have HP : Hid ((padL bs).length = l + 9 + zc l) := by show _ = _; rw [padL_len, hl]
  have HM : Hid ((l + 9 + zc l) % 64 = 0) := by show _ = _; rw [← HP.out]; exact padL_mod bs
  have hz : zc l < 64 := by unfold zc; omega
  clear hl
  have h0 : Below w.heap.size w (w.alloc (.cells (wcells iv.toL).toArray 49)) := (Below.refl _ _).alloc (Nat.le_refl _) _
  have a0 : At (w.alloc (.cells (wcells iv.toL).toArray 49)) w.heap.size 49 (wcells iv.toL) := At.new_ _ _ _ _ rfl
  go_enter Tryd.func24, Tryd.ntmps24
  go_wp2_with fail
  refine (padded_any B l d bs _ HL.out (hb.below h0) hl40).mono ?_
  rintro e wp ⟨A, c, rfl, hsl, hLc, hb1⟩
  have a1 := a0.below hb1 a0.lt
  have h1 := h0.trans (hb1.mono h0.size)
  have hP : (padL bs).length = l + 9 + zc l := HP.out
  have hLb : l + 9 + zc l ≤ 1099511627900 := by omega
  generalize l + 9 + zc l = L at *
  have HP : Hid ((padL bs).length = L) := hP
  clear hP a0 h0 hb1
  go_wp2_with fail
  go_loopw [3, 5] (fun v i wr => ∃ (k g : Nat), 64 * k ≤ L ∧ i = .int .i64 (64 * (k : Int)) ∧ v = .slice (some ⟨g, 0, none⟩) 8 8 ∧ At wr g 49 (wcells (blocksN (padL bs) k).toL) ∧ Below w.heap.size w wr ∧ Below wp.heap.size wp wr)
    (fun _ i _ => L - (intOf i).toNat)
  case atStart => exact ⟨0, w.heap.size, by omega, rfl, rfl, a1, h1, Below.refl _ _⟩
  case round =>
    clear a1 h1
    obtain ⟨k, g, hk, rfl, rfl, hat, hbel, hbp⟩ := hrel
    by_cases hlt : 64 * k < L
    · have h64 : 64 * k + 64 ≤ L := by have := HM.out; omega
      have hs2 : Sl wr (A.map (·.add (64 * k))) (bcells (((padL bs).drop (64 * k)).take 64)) := by
        have := (hsl.below hbp).cut (64 * k) c (by rw [bcells_len, HP.out]; omega)
        rw [if_neg (by omega), bcells_drop] at this
        have := this.take 64
        rw [bcells_take] at this
        exact this
      have hw : wrap64 (64 * (k : Int) + 64) = 64 * (k : Int) + 64 := IntWalk.wrap64_in _ (by omega)
      have HQ : Hid (64 * (k : Int) + 64 = 64 * ((k + 1 : Nat) : Int)) := mul64_succ k
      clear hLb
      have hk1 : 64 * (k + 1) ≤ L := h64
      have ht : (64 * (k : Int) + 64).toNat - 64 * k = 64 := by omega
      have hl64 : (((padL bs).drop (64 * k)).take 64).length = 64 := by
        rw [List.length_take, List.length_drop, HP.out]; omega
      go_wp2_with fail
      simp only [hw]
      refine (block_any (blocksN (padL bs) k) (some ⟨g, 0, none⟩) (A.map (·.add (64 * k))) 8 (c - 64 * k) _ wr hl64 (Sl.of_at_all hat) hs2).mono ?_
      rintro e w2 ⟨g2, rfl, hat2, hb2⟩
      have hbel2 := hbel.trans (hb2.mono hbel.size)
      have hbp2 := hbp.trans (hb2.mono hbp.size)
      have hat3 : At w2 g2 49 (wcells (blocksN (padL bs) (k + 1)).toL) := hat2
      clear hs2 hat2 hl64
      go_wp2_with fail
      go_roundw
      case rel => exact ⟨k + 1, g2, hk1, congrArg (Value.int .i64) (by first | exact HQ.out | (rw [hw]; exact HQ.out)), rfl, hat3, hbel2, hbp2⟩
      case measure => first | exact meas64 L k h64 | (simp only [hw]; exact meas64 L k h64)
    · have hk64 : L ≤ 64 * k := by omega
      have HS : Hid (blocksN (padL bs) k = blocksN (padL bs) ((padL bs).length / 64)) := by
        show _ = _; rw [HP.out, show L / 64 = k by omega]
      obtain ⟨ws, hws⟩ : ∃ ws, ws = (blocksN (padL bs) k).toL := ⟨_, rfl⟩
      have hwl : ws.length = 8 := by rw [hws]; rfl
      rw [← hws] at hat
      have HF : Hid (textB ws = sha bs) := by show _ = _; rw [hws, HS.out, sha_blocks]
      have HWL : Hid (ws.length = 8) := hwl
      clear hws hwl HS hsl hbp
      have hgl := hat.lt
      have hws := hbel.size
      have HC : Hid (∀ wx, Below wr.heap.size wr wx → ∀ j, j < 8 → wx.cell? ⟨g, j, none⟩ = some (.int .u32 (un (ws.getD j 0)))) := fun wx hx j hj => ((hat.below hx hgl).cell j).trans (wcells_get _ _ (by rw [HWL.out]; exact hj))
      clear hat
      go_wp2_with fail
      obtain ⟨wo, hwo⟩ : ∃ wo : World, wo = wr := ⟨_, rfl⟩
      subst hwo
      go_loopw [6, 7] (fun v i wr => ∃ k : Nat, k ≤ 8 ∧ i = .int .i64 k ∧ wr.ownsRow wo.heap.size 5 1 v (4 * k) (bcells (textB (ws.take k))) ∧ Below wo.heap.size wo wr)
        (fun _ i _ => 8 - (intOf i).toNat)
      case atStart => exact ⟨0, by omega, rfl, World.ownsRow_nil _ _ _ _, Below.refl _ _⟩
      case round =>
        obtain ⟨k, hk8, rfl, hown, hb3⟩ := hrel
        by_cases hlt : k < 8
        · have cx := HC.out wr hb3 k hlt
          have HX : Hid (textB (ws.take (k + 1)) = textB (ws.take k) ++ be (ws.getD k 0)) := textB_snoc ws k (by rw [HWL.out]; exact hlt)
          have HCX : Hid (∀ wx, Below wo.heap.size wo wx → wx.cell? ⟨g, k, none⟩ = some (.int .u32 (un (ws.getD k 0)))) := fun wx h => HC.out wx h k hlt
          generalize ws.getD k 0 = x at *
          have hsz3 := hb3.size
          have b1 := un_lt x
          have b0 := un_nn x
          have q1 : IntKind.u32.wrap ((un x).tdiv 16777216) = un x / 16777216 := IntWalk.u32_quo _ _ (by omega)
          have q2 : IntKind.u32.wrap ((un x).tdiv 65536) = un x / 65536 := IntWalk.u32_quo _ _ (by omega)
          have q3 : IntKind.u32.wrap ((un x).tdiv 256) = un x / 256 := IntWalk.u32_quo _ _ (by omega)
          have r2 : (un x / 65536).tmod 256 = un x / 65536 % 256 := Int.tmod_eq_emod_of_nonneg (by omega)
          have r3 : (un x / 256).tmod 256 = un x / 256 % 256 := Int.tmod_eq_emod_of_nonneg (by omega)
          have r4 : (un x).tmod 256 = un x % 256 := Int.tmod_eq_emod_of_nonneg (by omega)
          have s1 : IntKind.u8.wrap (un x / 16777216) = un x / 16777216 % 256 := by rw [IntWalk.u8_in _ (by omega)]; omega
          have s2 : IntKind.u8.wrap (un x / 65536 % 256) = un x / 65536 % 256 := IntWalk.u8_in _ (by omega)
          have s3 : IntKind.u8.wrap (un x / 256 % 256) = un x / 256 % 256 := IntWalk.u8_in _ (by omega)
          have s4 : IntKind.u8.wrap (un x % 256) = un x % 256 := IntWalk.u8_in _ (by omega)
          have g0 : (0 : Int) ≤ (k : Int) := by omega
          have l0 : (k : Int) < 8 := by omega
          clear b0 b1
          have hsl : Sl (wr.alloc (.cells #[.int .u8 (un x / 16777216 % 256), .int .u8 (un x / 65536 % 256), .int .u8 (un x / 256 % 256), .int .u8 (un x % 256)] 5)) (some ⟨wr.heap.size, 0, none⟩) (bcells (be x)) := by
            rw [be_cells]; exact Sl.of_at_all (At.new_ wr _ 5 _ rfl)
          go_wp2_with fail
          go_region_held3 (fun wx => wx.cell? ⟨g, k, none⟩ = some (.int .u32 (un x)))
            (first
              | go_keep
              | exact HCX.out _ hb4)
            ((refine step_app rfl (.tmp 28) (.tmp 55) 41 rfl bytesTy wo.heap.size u6 (4 * k) _ (by rfl) (hown.alloc _).drew _ 4 4 (bcells (be x)) (by rfl) (by rfl) hsl (bcells_one _) (by omega) (by simp; omega) ?_; intro v2 w2 hown2 hgr2 hbl2; have hb4 := below_app ((hb3.alloc hsz3 (.cells #[.int .u8 (un x / 16777216 % 256), .int .u8 (un x / 65536 % 256), .int .u8 (un x / 256 % 256), .int .u8 (un x % 256)] 5)).drew) hgr2 (hown.alloc _).drew (Nat.le_refl _) (by simp; omega)))
          go_simp
          go_wp2_with fail
          go_roundw
          case rel =>
            refine ⟨k + 1, by omega, by go_num, ?_, hb4⟩
            rw [HX.out, ← bcells_app, show 4 * (k + 1) = 4 * k + 4 by omega]; exact hown2
          case measure => simp [intOf]; omega
        · have hk8' : 8 ≤ k := by omega
          have hown' : wr.ownsRow wo.heap.size 5 1 u6 32 (bcells (textB ws)) := by
            have e : k = 8 := by omega
            rw [e, List.take_of_length_le (by rw [HWL.out]; omega)] at hown; exact hown
          obtain ⟨A', c', rfl, hsl, _, _⟩ := own_slice hown'
          have hstr := run_str (P := Tryd.prog) wr 41 9 5 under22 under5 under9 A' (textB ws) 32 c' (by rw [textB_len]; have := HWL.out; omega) hsl
          rw [HF.out] at hstr
          clear hown hown' hsl
          go_wp2_with fail
          go_ret
          exact ⟨rfl, hbel.trans (hb3.mono hbel.size)⟩
end Go.Proofs.YtldghdbbooopdaaDoor.ShaW

/- rubrickref03: Of. -/
namespace Go.Proofs.YtldghdbbooopdaaDoor.SealW
open Go.RowKit
open ShaW Sha
set_option maxHeartbeats 1000000 in
theorem refOf_any (k : UInt8) (B : Option Addr) (l d : Nat) (bs : List UInt8) (w : World) (hl : bs.length = l) (hb : Sl w B (bcells bs)) (h40 : l ≤ 1000000000000) :
    Calls Tryd.prog 38 #[.int .i64 (ub k), .slice B l d] w fun e w' => e = .returned (.string ⟨(sha (k :: bs)).toArray⟩) ∧ Below w.heap.size w w' := by
  have HL : Hid (bs.length = l) := hl
  have HF : Hid ((k :: bs : List UInt8).length = l + 1) := by show _ = _; simp [hl]
  clear hl
  go_enter Tryd.func38, Tryd.ntmps38
  go_wp2_with fail
  refine (refBytes_any k B l d bs _ HL.out hb (by omega)).mono ?_
  rintro e w1 ⟨A', c', rfl, hs1, hc1, hm1, hb1⟩
  go_wp2_with fail
  refine (refSum_any A' (l + 1) c' (k :: bs) _ HF.out hs1 (by omega)).mono ?_
  rintro e w2 ⟨rfl, hb2⟩
  have hbel := hb1.trans (hb2.mono hb1.size)
  go_wp2_with fail
  go_ret
  exact ⟨rfl, hbel⟩
end Go.Proofs.YtldghdbbooopdaaDoor.SealW

/- rubrickref03: Node. -/
namespace Go.Proofs.YtldghdbbooopdaaDoor.SealW
open Go.RowKit
open ShaW Sha
set_option maxHeartbeats 1000000 in
theorem refNode_any (l r : ByteArray) (w : World) (hs : l.size + r.size ≤ 1000000000000) :
    Calls Tryd.prog 37 #[.string l, .string r] w fun e w' => e = .returned (.string ⟨(sha (1 :: (l.data.toList ++ r.data.toList))).toArray⟩) ∧ Below w.heap.size w w' := by
  have hsum : ¬ 9223372036854775807 < l.size + r.size := by omega
  obtain ⟨t, ht⟩ : ∃ t, l ++ r = t := ⟨_, rfl⟩
  have HT : Hid (t.data.toList = l.data.toList ++ r.data.toList) := by show _ = _; rw [← ht]; simp
  have HZ : Hid (t.size = l.size + r.size) := by show _ = _; rw [← ht]; simp
  have HZ2 : Hid (t.data.toList.length = t.size) := bsize t
  go_enter Tryd.func37, Tryd.ntmps37
  go_wp2_with (refine wpList_toBytes rfl 9 41 5 (.tmp 7) rfl underStr underBytes underU8 t rfl (by unfold maxLen; rw [HZ.out]; omega) ?_; intro A1 c1 w1 b1 s1 k1 m1 a1)
  refine (refOf_any 1 A1 t.size c1 t.data.toList _ HZ2.out s1 (by rw [HZ.out]; omega)).mono ?_
  rintro e w2 ⟨rfl, hb2⟩
  have hbel := b1.trans (hb2.mono b1.size)
  rw [HT.out]
  go_wp2_with fail
  go_ret
  exact ⟨rfl, hbel⟩
end Go.Proofs.YtldghdbbooopdaaDoor.SealW

/- rubrickref06: Right, Root. -/
namespace Go.Proofs.YtldghdbbooopdaaDoor.TrW
open Go.RowKit TreeW
open ShaW Sha
set_option maxHeartbeats 1000000 in
theorem right_any (A : Option Addr) (l c : Nat) (ss : List ByteArray) (w : World) (hl : ss.length = l) (hs : Sl w A (scells ss)) (hl63 : l ≤ 9223372036854775807) :
    Calls Tryd.prog 11 #[.slice A l c] w fun e w' => e = .returned (.bool (decide (Digs ss))) ∧ w = w' := by
  have HL := Lib.hid hl
  clear hl
  go_enter Tryd.func11, Tryd.ntmps11
  go_wp2_with fail
  go_loop [3] (fun i => ∃ j : Nat, j ≤ l ∧ i = .int .i64 (j : Int) ∧ Hid (Digs (ss.take j))) (fun i => l - (intOf i).toNat)
  case atStart => exact ⟨0, by omega, rfl, fun x hx => by simp at hx⟩
  case round =>
    obtain ⟨j, hj, rfl, HK⟩ := hrel
    by_cases hlt : j < l
    · obtain ⟨b, o, rfl, hblt, hcell⟩ := hs.get (j := j) (by rw [scells_len, HL.out]; exact hlt)
      have hc0 := hcell j _ (scells_get ss j (by rw [HL.out]; exact hlt))
      have hget := get_of (ss := ss) (j := j) (by rw [HL.out]; exact hlt)
      obtain ⟨s, hsj⟩ : ∃ s, ss.getD j ⟨#[]⟩ = s := ⟨_, rfl⟩
      rw [hsj] at hc0 hget
      have HG := Lib.hid hget
      clear hcell hget hsj
      by_cases h32 : s.size = 32
      · have h1 : (s.size : Int) = 32 := by omega
        have HN := Lib.hid (digs_take_succ HG.out HK.out h32)
        clear h32
        go_wp2_with fail
        go_round
        case rel => exact ⟨j + 1, by omega, by go_num, HN⟩
        case measure => simp [intOf]; omega
      · have h1 : ¬ (s.size : Int) = 32 := by omega
        have HF : Hid (decide (Digs ss) = false) := decide_eq_false (fun h => h32 (h s (List.mem_of_getElem? HG.out)))
        clear h32
        go_wp2_with fail
        go_ret
        exact ⟨by rw [HF.out]; rfl, rfl⟩
    · have HF : Hid (decide (Digs ss) = true) := decide_eq_true (by
        have := HK.out
        rwa [List.take_of_length_le (by rw [HL.out]; omega)] at this)
      go_wp2_with fail
      go_ret
      exact ⟨by rw [HF.out]; rfl, rfl⟩
theorem right_yes (A : Option Addr) (l c : Nat) (ss : List ByteArray) (w : World) (hl : ss.length = l) (hs : Sl w A (scells ss)) (hl63 : l ≤ 9223372036854775807) (hd : Digs ss) :
    Calls Tryd.prog 11 #[.slice A l c] w fun e w' => e = .returned (.bool true) ∧ w = w' := by
  have := right_any A l c ss w hl hs hl63; rwa [decide_eq_true hd] at this
theorem right_no (A : Option Addr) (l c : Nat) (ss : List ByteArray) (w : World) (hl : ss.length = l) (hs : Sl w A (scells ss)) (hl63 : l ≤ 9223372036854775807) (hd : ¬ Digs ss) :
    Calls Tryd.prog 11 #[.slice A l c] w fun e w' => e = .returned (.bool false) ∧ w = w' := by
  have := right_any A l c ss w hl hs hl63; rwa [decide_eq_false hd] at this
theorem refNode_nd (l r : ByteArray) (w : World) (hs : l.size + r.size ≤ 1000000000000) :
    Calls Tryd.prog 37 #[.string l, .string r] w fun e w' => e = .returned (.string (nd l r)) ∧ Below w.heap.size w w' := SealW.refNode_any l r w hs
set_option maxRecDepth 1000000 in
set_option maxHeartbeats 2000000 in
theorem refRoot_any : ∀ (m : Nat) (A : Option Addr) (l c : Nat) (ss : List ByteArray) (_hm : l ≤ m) (w : World) (_hl : ss.length = l) (_hs : Sl w A (scells ss)) (_hd : Digs ss) (_hlc : l ≤ c) (_hl40 : l ≤ 1099511627776),
    Calls Tryd.prog 31 #[.slice A l c] w fun e w' => e = .returned (.string (rt ss)) ∧ Below w.heap.size w w' := by
  intro m
  induction m with
  | zero =>
    intro A l c ss hm w hl hs hd hlc hl40
    obtain rfl : l = 0 := by omega
    have HZ : Hid (rt ss = ed) := by show _ = _; rw [List.eq_nil_of_length_eq_zero hl]; rfl
    clear hl hs hd
    go_enter Tryd.func31, Tryd.ntmps31
    go_wp2_with fail
    refine (refSum_any none 0 0 [] _ rfl Sl.nil (by omega)).mono ?_
    rintro e w1 ⟨rfl, hb1⟩
    go_wp2_with fail
    go_ret
    exact ⟨by rw [HZ.out]; rfl, hb1⟩
  | succ m ih =>
    intro A l c ss hm w hl hs hd hlc hl40
    by_cases hz : l = 0
    · subst hz
      have HZ : Hid (rt ss = ed) := by show _ = _; rw [List.eq_nil_of_length_eq_zero hl]; rfl
      clear hl hs hd ih
      go_enter Tryd.func31, Tryd.ntmps31
      go_wp2_with fail
      refine (refSum_any none 0 0 [] _ rfl Sl.nil (by omega)).mono ?_
      rintro e w1 ⟨rfl, hb1⟩
      go_wp2_with fail
      go_ret
      exact ⟨by rw [HZ.out]; rfl, hb1⟩
    by_cases h1 : l = 1
    · subst h1
      obtain ⟨x, rfl⟩ : ∃ x, ss = [x] := by
        match ss, hl with
        | [x], _ => exact ⟨x, rfl⟩
      obtain ⟨b, o, rfl, hblt, hcell⟩ := hs.get (j := 0) (by simp [scells])
      have hc0 : w.cell? ⟨b, o, none⟩ = some (.string x) := hcell 0 _ rfl
      clear hcell hl hs hd ih
      go_enter Tryd.func31, Tryd.ntmps31
      go_wp2_with fail
      go_ret
      exact ⟨rfl, Below.refl _ _⟩
    obtain ⟨k, q, c2, A2, hk, k1, kl, kq, q1, qc, cc, tk, dq, sP, sQ, hto, hfr⟩ := halves (c := c) hl hs (by omega) hlc
    have HK := Lib.hid hk
    have HP := Lib.hid tk
    have HQ := Lib.hid dq
    have HTO := Lib.hid hto
    have HFR := Lib.hid hfr
    have HD := Lib.hid hd
    have b0 : Below w.heap.size w w.drew := (Below.refl _ _).drew
    have hne0 : ((l : Int) == 0) = false := by simpa using hz
    have hne1 : ((l : Int) == 1) = false := by have : ¬ (l : Int) = 1 := by omega
                                               simpa using this
    have HR : Hid (rt ss = nd (rt (ss.take k)) (rt (ss.drop k))) := by
      have := root_two nd ed ss (by omega)
      rw [hl, ← hk] at this
      exact this
    have ZP := Lib.hid (rt_size _ _ (Nat.le_refl _) (hd.take k))
    have ZQ := Lib.hid (rt_size _ _ (Nat.le_refl _) (hd.drop k))
    clear hl hs hd hk tk dq hto hfr hz h1
    go_enter Tryd.func31, Tryd.ntmps31
    go_wp2_with fail
    refine (refSplit_in l _ (by omega) hl40).mono ?_
    rintro e w1 ⟨rfl, rfl⟩
    rw [← HK.out]
    go_wp2_with fail
    refine regB_begin (w.heap.size) (by kernel_rfl) ?_
    change wpAnyH _ _ _ _ _ 10 #[false, false, false, false, false, false, false, false, false, false] _ _
    refine regB_take (i := 0) (d := some 17) (v := (.slice A l c)) rfl rfl (by kernel_rfl) (by kernel_rfl) (by kernel_rfl) (fun _ _ _ h => h) (by rfl) (by intro w' hSw; go_simp) ?_
    try simp only [Act.put, List.setIfInBounds_toArray, List.set_cons_zero, List.set_cons_succ]
    refine regB_take (i := 1) (d := some 18) (v := (.int .i64 (k : Int))) rfl rfl (by kernel_rfl) (by kernel_rfl) (by kernel_rfl) (fun _ _ _ h => h) (by rfl) (by intro w' hSw; go_simp) ?_
    try simp only [Act.put, List.setIfInBounds_toArray, List.set_cons_zero, List.set_cons_succ]
    refine regB_take (i := 2) (d := some 19) (v := (.slice A k c)) rfl rfl (by kernel_rfl) (by kernel_rfl) (by kernel_rfl) (fun _ _ _ h => h) (by rfl) (by intro w' hSw; have h9 := HTO.out w'; go_simp) ?_
    try simp only [Act.put, List.setIfInBounds_toArray, List.set_cons_zero, List.set_cons_succ]
    refine regB_take (i := 4) (d := some 21) (v := (.slice A l c)) rfl rfl (by kernel_rfl) (by kernel_rfl) (by kernel_rfl) (fun _ _ _ h => h) (by rfl) (by intro w' hSw; go_simp) ?_
    try simp only [Act.put, List.setIfInBounds_toArray, List.set_cons_zero, List.set_cons_succ]
    refine regB_take (i := 5) (d := some 22) (v := (.int .i64 (k : Int))) rfl rfl (by kernel_rfl) (by kernel_rfl) (by kernel_rfl) (fun _ _ _ h => h) (by rfl) (by intro w' hSw; go_simp) ?_
    try simp only [Act.put, List.setIfInBounds_toArray, List.set_cons_zero, List.set_cons_succ]
    refine regB_take (i := 6) (d := some 23) (v := (.slice A2 q c2)) rfl rfl (by kernel_rfl) (by kernel_rfl) (by kernel_rfl) (fun _ _ _ h => h) (by rfl) (by intro w' hSw; have h9 := HFR.out w'; go_simp) ?_
    try simp only [Act.put, List.setIfInBounds_toArray, List.set_cons_zero, List.set_cons_succ]
    refine regB_call (i := 3) rfl (by kernel_rfl) (by rfl) fun K hK => ?_
    go_simp
    refine (ih A k c (ss.take k) (by omega) _ HP.out (sP.below b0) (HD.out.take k) (by omega) (by omega)).mono ?_
    rintro e w2 ⟨rfl, hb2⟩
    have b2 := b0.trans (hb2.mono b0.size)
    refine hK.out _ _ (hb2.mono b0.size) ?_
    clear hK K
    try simp only [List.setIfInBounds_toArray, List.set_cons_zero, List.set_cons_succ]
    refine regB_call (i := 7) rfl (by kernel_rfl) (by rfl) fun K hK => ?_
    go_simp
    refine (ih A2 q c2 (ss.drop k) (by omega) _ HQ.out (sQ.below b2) (HD.out.drop k) (by omega) (by omega)).mono ?_
    rintro e w3 ⟨rfl, hb3⟩
    have b3 := b2.trans (hb3.mono b2.size)
    refine hK.out _ _ (hb3.mono b2.size) ?_
    clear hK K
    try simp only [List.setIfInBounds_toArray, List.set_cons_zero, List.set_cons_succ]
    refine regB_call (i := 8) rfl (by kernel_rfl) (by rfl) fun K hK => ?_
    go_simp
    refine (refNode_nd (rt (ss.take k)) (rt (ss.drop k)) _ (by rw [ZP.out, ZQ.out]; omega)).mono ?_
    rintro e w4 ⟨rfl, hb4⟩
    have b4 := b3.trans (hb4.mono b3.size)
    refine hK.out _ _ (hb4.mono b3.size) ?_
    clear hK K
    try simp only [List.setIfInBounds_toArray, List.set_cons_zero, List.set_cons_succ]
    refine regB_take (i := 9) (d := some 2) (v := (.string (nd (rt (ss.take k)) (rt (ss.drop k))))) rfl rfl (by kernel_rfl) (by kernel_rfl) (by kernel_rfl) (fun _ _ _ h => h) (by rfl) (by intro w' hSw; go_simp) ?_
    try simp only [Act.put, List.setIfInBounds_toArray, List.set_cons_zero, List.set_cons_succ]
    refine wpAnyH_done (by kernel_rfl) ?_ _
    go_wp2_with fail
    go_ret
    exact ⟨by rw [HR.out]; rfl, b4⟩

end Go.Proofs.YtldghdbbooopdaaDoor.TrW

/- A path's last digest, and those ahead of it. -/
namespace Go.Proofs.YtldghdbbooopdaaDoor.TrW
open Go.RowKit TreeW
open ShaW Sha
/-- A path's last digest, and those ahead of it. -/
theorem path_parts {w : World} {A : Option Addr} {ss : List ByteArray} {l c m : Nat} (hl : ss.length = l) (hs : Sl w A (scells ss)) (hc : l ≤ c) (hm : l = 1 + m) (hd : Digs ss) :
    ∃ (q0 : List ByteArray) (d : ByteArray) (b o : Nat), ss = q0 ++ [d] ∧ q0.length = m ∧ A = some ⟨b, o, none⟩ ∧ b < w.heap.size ∧ (∀ w', Below w.heap.size w w' → w'.cell? ⟨b, o + m, none⟩ = some (.string d)) ∧ Sl w A (scells q0) ∧ Digs q0 ∧ d.size = 32 ∧
      (∀ w', (Instr.slice 22 (.slice A l c) none (some (.int .i64 (m : Int))) none).run Tryd.prog w' = .ok (.slice A m c) w') := by
  obtain ⟨q0, d, rfl, hq⟩ := snoc_of (p := ss) (m := m) (by omega)
  obtain ⟨b, o, rfl, hblt, hcell⟩ := hs.get (j := m) (by rw [scells_len]; omega)
  have hx : (q0 ++ [d])[m]? = some d := by rw [← hq, List.getElem?_concat_length]
  refine ⟨q0, d, b, o, rfl, hq, rfl, hblt, fun w' hb => (hb.cell (p := ⟨b, o + m, none⟩) hblt).trans (hcell m _ (scells_at hx)), ?_, fun x hx => hd x (List.mem_append_left _ hx), hd d (by simp), fun w' => run_to strsTy w' _ l c m .i64 (by omega)⟩
  have := hs.take q0.length
  rwa [scells_take, List.take_left] at this
end Go.Proofs.YtldghdbbooopdaaDoor.TrW

/- rubrickref07: Roots, Fair, Check. -/
namespace Go.Proofs.YtldghdbbooopdaaDoor.CoW
open Go.RowKit TreeW ConsW TrW
open ShaW Sha
/-- Both roots that a proof leads to. -/
def ro (m n : Nat) (wh : Bool) (one : ByteArray) (p : List ByteArray) : Option (ByteArray × ByteArray) := ConsW.roots nd m n wh one p
/-- What the reference tells of them. -/
structure Told3 (m n : Nat) (wh : Bool) (one : ByteArray) (p : List ByteArray) (x y : ByteArray) (b : Bool) : Prop where
  size : x.size ≤ 32 ∧ y.size ≤ 32
  is : ro m n wh one p = if b then some (x, y) else none
theorem Told3.left {m n k : Nat} {wh : Bool} {one d x y : ByteArray} {p : List ByteArray} {b : Bool} (hk : k = split n) (h1 : 1 ≤ m) (h2 : m < n) (h : m ≤ k) (t : Told3 m k wh one p x y b) : Told3 m n wh one (p ++ [d]) x (nd y d) b :=
  ⟨⟨t.size.1, Nat.le_of_eq (nd_size _ _)⟩, by
    have e := roots_left nd (wh := wh) (one := one) (d := d) (p := p) hk h1 h2 h
    have t2 := t.is
    unfold ro at t2 ⊢
    rw [e, t2]
    cases b <;> rfl⟩
theorem Told3.right {m n k : Nat} {wh : Bool} {one d x y : ByteArray} {p : List ByteArray} {b : Bool} (hk : k = split n) (h1 : 1 ≤ m) (h2 : m < n) (h : ¬ m ≤ k) (t : Told3 (m - k) (n - k) false one p x y b) : Told3 m n wh one (p ++ [d]) (nd d x) (nd d y) b :=
  ⟨⟨Nat.le_of_eq (nd_size _ _), Nat.le_of_eq (nd_size _ _)⟩, by
    have e := roots_right nd (wh := wh) (one := one) (d := d) (p := p) hk h1 h2 h
    have t2 := t.is
    unfold ro at t2 ⊢
    rw [e, t2]
    cases b <;> rfl⟩
set_option maxRecDepth 1000000 in
set_option maxHeartbeats 4000000 in
theorem refRoots_any : ∀ (f m n : Nat) (wh : Bool) (one : ByteArray) (A : Option Addr) (l c : Nat) (ss : List ByteArray) (_hf : n ≤ f) (w : World) (_h1 : 1 ≤ m) (_h2 : m ≤ n) (_hn : n ≤ 1099511627776) (_ho : one.size ≤ 32) (_hl : ss.length = l) (_hs : Sl w A (scells ss)) (_hd : Digs ss) (_hlc : l ≤ c) (_hc63 : c ≤ 9223372036854775807),
    Calls Tryd.prog 25 #[.int .i64 (m : Int), .int .i64 (n : Int), .bool wh, .string one, .slice A l c] w fun e w' => ∃ x y b, e = .returned (.tuple #[.string x, .string y, .bool b]) ∧ Told3 m n wh one ss x y b ∧ Below w.heap.size w w' := by
  intro f
  induction f with
  | zero => intro m n wh one A l c ss hf w h1 h2; omega
  | succ f ih =>
    intro m n wh one A l c ss hf w h1 h2 hn ho hl hs hd hlc hc63
    by_cases hmn : m = n
    · subst hmn
      have HO := Lib.hid ho
      clear ih
      cases wh with
      | true =>
        by_cases hz : l = 0
        · have HR : Hid (ro m m true one ss = some (one, one)) := (ConsW.roots_true nd m one ss).trans (if_pos (by omega))
          subst hz
          clear hl hs
          go_enter Tryd.func25, Tryd.ntmps25
          go_wp2_with fail
          go_ret3
          exact ⟨one, one, true, rfl, ⟨⟨HO.out, HO.out⟩, HR.out⟩, Below.refl _ _⟩
        · have HR : Hid (ro m m true one ss = none) := (ConsW.roots_true nd m one ss).trans (if_neg (by omega))
          have hne : ((l : Int) == 0) = false := by simpa using hz
          clear hl hs
          go_enter Tryd.func25, Tryd.ntmps25
          go_wp2_with fail
          go_ret3
          exact ⟨one, one, false, rfl, ⟨⟨HO.out, HO.out⟩, HR.out⟩, Below.refl _ _⟩
      | false =>
        by_cases h1l : l = 1
        · subst h1l
          obtain ⟨x, rfl⟩ : ∃ x, ss = [x] := by
            match ss, hl with
            | [x], _ => exact ⟨x, rfl⟩
          have HR : Hid (ro m m false one [x] = some (x, x)) := ConsW.roots_one nd m one x
          obtain ⟨b, o, rfl, hblt, hcell⟩ := hs.get (j := 0) (by simp [scells])
          have hc0 : w.cell? ⟨b, o, none⟩ = some (.string x) := hcell 0 _ rfl
          have HX : Hid (x.size ≤ 32) := Nat.le_of_eq (hd x (by simp))
          clear hcell hl hs
          go_enter Tryd.func25, Tryd.ntmps25
          go_wp2_with fail
          go_quiet (fail)
          go_wp2_with fail
          go_ret3
          exact ⟨x, x, true, rfl, ⟨⟨HX.out, HX.out⟩, HR.out⟩, below_drewN (Below.refl _ _) _⟩
        · have HR : Hid (ro m m false one ss = none) := ConsW.roots_not nd m one ss (by omega)
          have hne : ((l : Int) == 1) = false := by simpa using (show ¬ (l : Int) = 1 by omega)
          clear hl hs
          go_enter Tryd.func25, Tryd.ntmps25
          go_wp2_with fail
          go_ret3
          exact ⟨⟨#[]⟩, ⟨#[]⟩, false, rfl, ⟨⟨by show (0 : Nat) ≤ 32; omega, by show (0 : Nat) ≤ 32; omega⟩, HR.out⟩, Below.refl _ _⟩
    have hne : ((m : Int) == (n : Int)) = false := by simpa using (show ¬ (m : Int) = (n : Int) by omega)
    by_cases hz : l = 0
    · have HR : Hid (ro m n wh one ss = none) := by
        show _ = _
        rw [List.eq_nil_of_length_eq_zero (show ss.length = 0 by omega)]
        exact roots_nil nd h1 (by omega)
      subst hz
      clear hl hs hd ih
      go_enter Tryd.func25, Tryd.ntmps25
      go_wp2_with fail
      go_ret3
      exact ⟨⟨#[]⟩, ⟨#[]⟩, false, rfl, ⟨⟨by show (0 : Nat) ≤ 32; omega, by show (0 : Nat) ≤ 32; omega⟩, HR.out⟩, Below.refl _ _⟩
    obtain ⟨p, hl1⟩ : ∃ p, l = 1 + p := ⟨l - 1, by omega⟩
    obtain ⟨q0, d, b, o, rfl, hq, rfl, hblt, hcell, hsq, hdq, hd32, hto⟩ := path_parts hl hs hlc hl1 hd
    obtain ⟨sa, sb, _, _⟩ := split_spec (n := n) (by omega)
    obtain ⟨k, hk⟩ : ∃ k, k = split n := ⟨_, rfl⟩
    rw [← hk] at sa sb
    have HK := Lib.hid hk
    have HQ := Lib.hid hq
    have HCELL := Lib.hid hcell
    have HDQ := Lib.hid hdq
    have HD32 := Lib.hid hd32
    have HTO := Lib.hid hto
    have HO := Lib.hid ho
    have hne0 : ((1 : Int) + (p : Int) == 0) = false := by simpa using (show ¬ (1 : Int) + (p : Int) = 0 by omega)
    have hd0 := hcell w (Below.refl _ _)
    have q1 : (1 : Int) + (p : Int) - 1 = (p : Int) := by omega
    have q3 : ¬ ((1 : Int) + (p : Int) ≤ (p : Int)) := by omega
    have q4 : ¬ ((p : Int) < 0) := by omega
    subst hl1
    clear hl hs hd hq hcell hdq hd32 ho hz
    by_cases hmk : m ≤ k
    · have k5 : (m : Int) ≤ (k : Int) := by omega
      have HT3 := Lib.hid (fun (x y : ByteArray) (b : Bool) (t : Told3 m k wh one q0 x y b) => Told3.left (d := d) hk h1 (by omega) hmk t)
      clear hk
      go_enter Tryd.func25, Tryd.ntmps25
      go_wp2_with fail
      refine (refSplit_in n _ (by omega) hn).mono ?_
      rintro e w1 ⟨rfl, rfl⟩
      rw [← HK.out]
      go_wp2_with fail
      refine (ih m k wh one (some ⟨b, o, none⟩) p c q0 (by omega) _ h1 hmk (by omega) HO.out HQ.out hsq HDQ.out (by omega) hc63).mono ?_
      rintro e w2 ⟨x, y, bb, rfl, t3, hb2⟩
      have T3 := Lib.hid t3
      clear t3
      go_wp2_with fail
      refine (refNode_nd y d _ (by rw [HD32.out]; have := T3.out.size.2; omega)).mono ?_
      rintro e w3 ⟨rfl, hb3⟩
      have b3 := hb2.trans (hb3.mono hb2.size)
      go_wp2_with fail
      go_ret3
      exact ⟨x, nd y d, bb, rfl, HT3.out _ _ _ T3.out, b3⟩
    · obtain ⟨r, hr⟩ : ∃ r, m - k = r := ⟨_, rfl⟩
      obtain ⟨z, hz⟩ : ∃ z, n - k = z := ⟨_, rfl⟩
      have HT3 := Lib.hid (fun (x y : ByteArray) (b : Bool) (t : Told3 r z false one q0 x y b) => Told3.right (wh := wh) (d := d) (x := x) (y := y) (b := b) (one := one) (p := q0) hk h1 (by omega) hmk (by rw [hr, hz]; exact t))
      have k5 : ¬ (m : Int) ≤ (k : Int) := by omega
      have k6 : (m : Int) - (k : Int) = (r : Int) := by omega
      have k7 : (n : Int) - (k : Int) = (z : Int) := by omega
      clear hk
      go_enter Tryd.func25, Tryd.ntmps25
      go_wp2_with fail
      refine (refSplit_in n _ (by omega) hn).mono ?_
      rintro e w1 ⟨rfl, rfl⟩
      rw [← HK.out]
      go_wp2_with fail
      refine (ih r z false one (some ⟨b, o, none⟩) p c q0 (by omega) _ (by omega) (by omega) (by omega) HO.out HQ.out hsq HDQ.out (by omega) hc63).mono ?_
      rintro e w2 ⟨x, y, bb, rfl, t3, hb2⟩
      have T3 := Lib.hid t3
      clear t3
      go_wp2_with fail
      refine (refNode_nd d x _ (by rw [HD32.out]; have := T3.out.size.1; omega)).mono ?_
      rintro e w3 ⟨rfl, hb3⟩
      have b3 := hb2.trans (hb3.mono hb2.size)
      go_wp2_with fail
      refine (refNode_nd d y _ (by rw [HD32.out]; have := T3.out.size.2; omega)).mono ?_
      rintro e w4 ⟨rfl, hb4⟩
      have b4 := b3.trans (hb4.mono b3.size)
      go_wp2_with fail
      go_ret3
      exact ⟨nd d x, nd d y, bb, rfl, HT3.out _ _ _ T3.out, b4⟩
end Go.Proofs.YtldghdbbooopdaaDoor.CoW

/- tree: Leaves. -/
namespace Go.Proofs.YtldghdbbooopdaaDoor.TrW
open Go.RowKit TreeW
open ShaW Sha
/-- The digest of a leaf. -/
def lf (b : List UInt8) : ByteArray := ⟨(sha (0 :: b)).toArray⟩
theorem lf_size (b : List UInt8) : (lf b).size = 32 := SealW.sha_size _
theorem lf_digs (bss : List (List UInt8)) : Digs (bss.map lf) := by
  intro x hx
  obtain ⟨b, _, rfl⟩ := List.mem_map.1 hx
  exact lf_size b
theorem lf_snoc {bss : List (List UInt8)} {j : Nat} (h : j < bss.length) : (bss.take (j + 1)).map lf = (bss.take j).map lf ++ [lf (bss.getD j [])] := by
  rw [List.take_add_one, List.map_append]
  simp [h]
set_option maxRecDepth 100000 in
set_option maxHeartbeats 2000000 in
theorem leaves_any (A : Option Addr) (l c : Nat) (vs : List Value) (bss : List (List UInt8)) (w : World) (hT : Tab w) (hl : bss.length = l) (hA : Sl w A vs) (hR : RowsAt w vs bss) (hl40 : l ≤ 1099511627776) (hle : ∀ b ∈ bss, b.length ≤ 1000000000000) :
    Calls Tryd.prog 19 #[.slice A l c] w fun e w' => ∃ v, e = .returned v ∧ OwS w.heap.size w' v (bss.map lf) ∧ Below w.heap.size w w' := by
  have hpos := hT.pos
  have HT := Lib.hid (fun W (hb : Below w.heap.size w W) => hT.below hb hpos)
  have HL := Lib.hid hl
  have HRL := Lib.hid hR.1
  have HR2 := Lib.hid hR.2
  have HLE := Lib.hid hle
  clear hl hT hpos hR hle
  go_enter Tryd.func19, Tryd.ntmps19
  go_wp2_with (refine wpList_mk rfl (.const (.int .i64 0)) (.tmp 7) rfl strsTy w.heap.size .i64 .i64 l l rfl rfl rfl (by omega) (Nat.le_refl _) ?_; intro w1 hown1 hgr1)
  have hb1 : Below w.heap.size w w1 := (Below.refl _ _).grown hgr1 (Nat.le_refl _) (fun k hk => by cases hk)
  clear hgr1
  go_loopw [3, 5, 11] (fun v _ i wr => ∃ j : Nat, j ≤ l ∧ i = .int .i64 (j : Int) ∧ OwS w.heap.size wr v ((bss.take j).map lf) ∧ Below w.heap.size w wr) (fun _ _ i _ => l - (intOf i).toNat)
  case atStart => exact ⟨0, by omega, rfl, hown1, hb1⟩
  case round =>
    clear hown1 hb1
    obtain ⟨j, hj, rfl, hown, hbel⟩ := hrel
    by_cases hlt : j < l
    · have hjb : j < bss.length := by rw [HL.out]; exact hlt
      obtain ⟨b, o, rfl, hblt, hcell⟩ := hA.get (j := j) (by rw [HRL.out]; exact hjb)
      obtain ⟨B, d, hv, hB, hBd, hd⟩ := HR2.out j hjb
      have hc0 := (hbel.cell (p := ⟨b, o + j, none⟩) hblt).trans (hcell j _ hv)
      have hB1 := hB.below hbel
      have HX := Lib.hid (lf_snoc hjb)
      have hle := HLE.out (bss.getD j []) (by simp [List.getD, hjb])
      obtain ⟨x, hx⟩ : ∃ x, bss.getD j [] = x := ⟨_, rfl⟩
      rw [hx] at hc0 hB1 hle HX hBd
      obtain ⟨q, hq⟩ : ∃ q, x.length = q := ⟨_, rfl⟩
      rw [hq] at hc0 hle hBd
      have HQ := Lib.hid hq
      obtain ⟨m, hm⟩ : ∃ m, m = ((bss.take j).map lf).length := ⟨_, rfl⟩
      have HM := Lib.hid hm
      have hmj : m ≤ j := by rw [hm, List.length_map, List.length_take]; omega
      unfold OwS at hown
      rw [← hm] at hown
      clear hcell hv hB hx hq hm hjb
      go_wp2_with fail
      refine (SealW.leaf_any B q d x _ (HT.out _ hbel) HQ.out hB1 hle).mono ?_
      rintro e w2 ⟨rfl, hb2⟩
      have b2 := hbel.trans (hb2.mono hbel.size)
      have hown2 := own_below hown hb2
      obtain ⟨s, hs⟩ : ∃ s, (⟨(sha (0 :: x)).toArray⟩ : ByteArray) = s := ⟨_, rfl⟩
      have HS : Hid (lf x = s) := hs
      rw [hs]
      have HSL := Lib.hid (fun (W : World) => new_str W s)
      have hbx := b2.alloc b2.size (.cells #[.string s] 9)
      clear hb2 hown hs hc0 hB1
      go_wp2_with (refine wpList_app rfl (.tmp 15) (.tmp 18) 22 rfl strsTy w.heap.size _ m (scells ((bss.take j).map lf)) rfl (hown2.alloc _) _ 1 1 (scells [s]) rfl rfl (HSL.out _) (scells_one _) (by omega) hbx.size ?_; intro v3 w3 hown3 hgr3 hbl3)
      have hb3 := below_app hbx hgr3 (hown2.alloc (.cells #[.string s] 9)) (Nat.le_refl _) hbx.size
      have hown4 := snoc_ownS HM.out hown3
      clear hown2 hown3 hgr3 hbl3 hbx
      go_roundw
      case rel => exact ⟨j + 1, by omega, by go_num, by rw [HX.out, HS.out]; exact hown4, hb3⟩
      case measure => simp [intOf]; omega
    · have hfl : bss.take j = bss := List.take_of_length_le (by rw [HL.out]; omega)
      rw [hfl] at hown
      go_wp2_with fail
      go_ret
      exact ⟨_, rfl, hown, hbel⟩
end Go.Proofs.YtldghdbbooopdaaDoor.TrW

/- Nodes, the sum of nothing, a byte's row. -/
namespace Go.Proofs.YtldghdbbooopdaaDoor.TrW
open Go.RowKit TreeW
open ShaW Sha
theorem node_tup (l r : ByteArray) (w : World) (hT : Tab w) (h1 : l.size = 32) (h2 : r.size = 32) :
    Calls Tryd.prog 58 #[.string l, .string r] w fun e w' => e = .returned (.tuple #[.string (nd l r), .int .i64 0]) ∧ Below w.heap.size w w' := SealW.node_any l r w hT h1 h2
theorem sum_nil (w : World) (hT : Tab w) : Calls Tryd.prog 33 #[.slice none 0 0] w fun e w' => e = .returned (.string ed) ∧ Below w.heap.size w w' :=
  sum_wide none 0 0 [] w hT rfl Sl.nil (by omega) (by omega) (by omega)
theorem lit_sl (W : World) (x : UInt8) (b : Nat) (hb : b = W.heap.size) : Sl (W.alloc (.cells #[.int .u8 (ub x)] 5)) (some ⟨b, 0, none⟩) (bcells [x]) := Sl.of_at_all (At.new_ W b 5 (bcells [x]) hb)
end Go.Proofs.YtldghdbbooopdaaDoor.TrW

/- rubrickref07: Check. -/
namespace Go.Proofs.YtldghdbbooopdaaDoor.CoW
open Go.RowKit TreeW ConsW TrW
open ShaW Sha
/-- Is a proof accepted? -/
def acc (m n : Nat) (one two : ByteArray) (p : List ByteArray) : Prop := accept nd ed m n one two p
set_option maxRecDepth 1000000 in
set_option maxHeartbeats 2000000 in
theorem refCheck_any (m n : Nat) (one two : ByteArray) (A : Option Addr) (l c : Nat) (ss : List ByteArray) (w : World) (h2 : m ≤ n) (hn : n ≤ 1099511627776) (h4 : one.size = 32) (hl : ss.length = l) (hs : Sl w A (scells ss)) (hlc : l ≤ c) (hc63 : c ≤ 9223372036854775807) :
    Calls Tryd.prog 16 #[.int .i64 (m : Int), .int .i64 (n : Int), .string one, .string two, .slice A l c] w fun e w' => ∃ b, e = .returned (.bool b) ∧ (b = true ↔ Digs ss ∧ acc m n one two ss) ∧ Below w.heap.size w w' := by
  have HL := Lib.hid hl
  clear hl
  by_cases hd : ¬ Digs ss
  · have HD := Lib.hid hd
    clear hd
    go_enter Tryd.func16, Tryd.ntmps16
    go_wp2_with fail
    refine (right_no A l c ss _ HL.out hs (by omega) HD.out).mono ?_
    rintro e w1 ⟨rfl, rfl⟩
    go_wp2_with fail
    go_ret
    exact ⟨false, rfl, ⟨(fun h => by cases h), fun h => absurd h.1 HD.out⟩, Below.refl _ _⟩
  have HD : Hid (Digs ss) := Classical.byContradiction hd
  have H4 := Lib.hid h4
  clear hd h4
  by_cases h0 : m = 0
  · subst h0
    by_cases hz : l = 0
    · have HN : Hid (ss = []) := List.eq_nil_of_length_eq_zero (by rw [HL.out]; exact hz)
      subst hz
      by_cases he : one = ed
      · have e1 := SealW.beq_yes he
        have HA : Hid (acc 0 n one two ss) := (accept_zero nd ed (n := n) (one := one) (two := two) (p := ss)).2 ⟨HN.out, he⟩
        clear he
        go_enter Tryd.func16, Tryd.ntmps16
        go_wp2_with fail
        refine (right_yes A 0 c ss _ HL.out hs (by omega) HD.out).mono ?_
        rintro e w1 ⟨rfl, rfl⟩
        go_wp2_with fail
        refine (refSum_any none 0 0 [] _ rfl Sl.nil (by omega)).mono ?_
        rw [show (⟨(sha []).toArray⟩ : ByteArray) = ed from rfl]
        rintro e w1 ⟨rfl, hb1⟩
        go_wp2_with fail
        go_ret
        exact ⟨true, rfl, ⟨fun _ => ⟨HD.out, HA.out⟩, fun _ => rfl⟩, hb1⟩
      · have e1 := SealW.beq_no he
        have HA : Hid (¬ acc 0 n one two ss) := fun h => he ((accept_zero nd ed).1 h).2
        clear he
        go_enter Tryd.func16, Tryd.ntmps16
        go_wp2_with fail
        refine (right_yes A 0 c ss _ HL.out hs (by omega) HD.out).mono ?_
        rintro e w1 ⟨rfl, rfl⟩
        go_wp2_with fail
        refine (refSum_any none 0 0 [] _ rfl Sl.nil (by omega)).mono ?_
        rw [show (⟨(sha []).toArray⟩ : ByteArray) = ed from rfl]
        rintro e w1 ⟨rfl, hb1⟩
        go_wp2_with fail
        go_ret
        exact ⟨false, rfl, ⟨(fun h => by cases h), fun h => absurd h.2 HA.out⟩, hb1⟩
    · have HA : Hid (¬ acc 0 n one two ss) := fun h => hz (by rw [← HL.out, ((accept_zero nd ed).1 h).1]; rfl)
      have hne : ((l : Int) == 0) = false := by simpa using hz
      go_enter Tryd.func16, Tryd.ntmps16
      go_wp2_with fail
      refine (right_yes A l c ss _ HL.out hs (by omega) HD.out).mono ?_
      rintro e w1 ⟨rfl, rfl⟩
      go_wp2_with fail
      go_ret
      exact ⟨false, rfl, ⟨(fun h => by cases h), fun h => absurd h.2 HA.out⟩, Below.refl _ _⟩
  have hne : ((m : Int) == 0) = false := by simpa using h0
  have HAP := Lib.hid (accept_pos nd ed (n := n) (one := one) (two := two) (p := ss) h0)
  go_enter Tryd.func16, Tryd.ntmps16
  go_wp2_with fail
  refine (right_yes A l c ss _ HL.out hs (by omega) HD.out).mono ?_
  rintro e w1 ⟨rfl, rfl⟩
  go_wp2_with fail
  refine (refRoots_any n m n true one A l c ss (Nat.le_refl _) _ (by omega) h2 hn (Nat.le_of_eq H4.out) HL.out hs HD.out hlc hc63).mono ?_
  rintro e w1 ⟨x, y, b, rfl, t3, hb1⟩
  have T3 := Lib.hid t3.is
  clear t3
  cases b with
  | false =>
    have HA : Hid (¬ acc m n one two ss) := fun h => by
      have h1 := HAP.out.1 h
      have h2 := T3.out
      unfold ro at h2
      rw [h2] at h1; cases h1
    go_wp2_with fail
    go_ret
    exact ⟨false, rfl, ⟨(fun h => by cases h), fun h => absurd h.2 HA.out⟩, hb1⟩
  | true =>
    have HI : Hid (acc m n one two ss ↔ x = one ∧ y = two) := by
      have h2 := T3.out
      unfold ro at h2
      refine HAP.out.trans ?_
      rw [h2]
      simp
    by_cases hx : x = one
    · by_cases hy : y = two
      · have HA : Hid (acc m n one two ss) := HI.out.2 ⟨hx, hy⟩
        have e1 := SealW.beq_yes hx
        have e2 := SealW.beq_yes hy
        clear hx hy
        go_wp2_with fail
        go_ret
        exact ⟨true, rfl, ⟨fun _ => ⟨HD.out, HA.out⟩, fun _ => rfl⟩, hb1⟩
      · have HA : Hid (¬ acc m n one two ss) := fun h => hy (HI.out.1 h).2
        have e1 := SealW.beq_yes hx
        have e2 := SealW.beq_no hy
        clear hx hy
        go_wp2_with fail
        go_ret
        exact ⟨false, rfl, ⟨(fun h => by cases h), fun h => absurd h.2 HA.out⟩, hb1⟩
    · have HA : Hid (¬ acc m n one two ss) := fun h => hx (HI.out.1 h).1
      have e1 := SealW.beq_no hx
      clear hx
      go_wp2_with fail
      go_ret
      exact ⟨false, rfl, ⟨(fun h => by cases h), fun h => absurd h.2 HA.out⟩, hb1⟩
end Go.Proofs.YtldghdbbooopdaaDoor.CoW

/- rubrickref07: Fair. -/
namespace Go.Proofs.YtldghdbbooopdaaDoor.CoW
open Go.RowKit TreeW ConsW TrW
open ShaW Sha
/-- May it be asked? -/
def fair (m n : Int) (one two : ByteArray) : Prop := 0 ≤ m ∧ m ≤ n ∧ n ≤ 1099511627776 ∧ one.size = 32 ∧ two.size = 32
instance (m n : Int) (one two : ByteArray) : Decidable (fair m n one two) := by unfold fair; infer_instance
theorem fair_no (m n : Int) (one two : ByteArray) (w : World) (h : ¬ fair m n one two) :
    Calls Tryd.prog 15 #[.int .i64 m, .int .i64 n, .string one, .string two] w fun e w' => e = .returned (.bool false) ∧ w = w' := by
  by_cases h1 : 0 ≤ m
  · by_cases h2 : m ≤ n
    · by_cases h3 : n ≤ 1099511627776
      · by_cases h4 : one.size = 32
        · have h5 : ¬ two.size = 32 := fun h5 => h ⟨h1, h2, h3, h4, h5⟩
          have e4 : (one.size : Int) = 32 := by omega
          have e5 : ((two.size : Int) == 32) = false := by simpa using (show ¬ (two.size : Int) = 32 by omega)
          clear h h4 h5
          go_enter Tryd.func15, Tryd.ntmps15
          go_wp2_with fail
          go_ret
          exact ⟨rfl, rfl⟩
        · have e4 : ¬ (one.size : Int) = 32 := by omega
          clear h h4
          go_enter Tryd.func15, Tryd.ntmps15
          go_wp2_with fail
          go_ret
          exact ⟨rfl, rfl⟩
      · clear h
        go_enter Tryd.func15, Tryd.ntmps15
        go_wp2_with fail
        go_ret
        exact ⟨rfl, rfl⟩
    · clear h
      go_enter Tryd.func15, Tryd.ntmps15
      go_wp2_with fail
      go_ret
      exact ⟨rfl, rfl⟩
  · clear h
    go_enter Tryd.func15, Tryd.ntmps15
    go_wp2_with fail
    go_ret
    exact ⟨rfl, rfl⟩
theorem fair_yes (m n : Nat) (one two : ByteArray) (w : World) (h2 : m ≤ n) (h3 : n ≤ 1099511627776) (h4 : one.size = 32) (h5 : two.size = 32) :
    Calls Tryd.prog 15 #[.int .i64 (m : Int), .int .i64 (n : Int), .string one, .string two] w fun e w' => e = .returned (.bool true) ∧ w = w' := by
  have e2 : (m : Int) ≤ (n : Int) := by omega
  have e3 : (n : Int) ≤ 1099511627776 := by omega
  have e4 : (one.size : Int) = 32 := by omega
  have e5 : (two.size : Int) = 32 := by omega
  clear h4 h5
  go_enter Tryd.func15, Tryd.ntmps15
  go_wp2_with fail
  go_ret
  exact ⟨rfl, rfl⟩
end Go.Proofs.YtldghdbbooopdaaDoor.CoW

/- A proof's roots from the leaves upwards: which steps, and that they lead where the definition does. Nothing of the dump. -/
namespace Go.Proofs.YtldghdbbooopdaaDoor.ConsW
open TreeW
/-- The steps from node i of a row whose last is j (true: a node on the left of both; false: one on the right of the second). -/
def steps2 : Nat → Nat → Nat → List Bool
  | 0, _, _ => []
  | b + 1, i, j => (if i % 2 = 1 then [true] else if i < j then [false] else []) ++ steps2 b (i / 2) (j / 2)
theorem steps2_zero : ∀ b : Nat, steps2 b 0 0 = []
  | 0 => rfl
  | b + 1 => by unfold steps2; simp [steps2_zero b]
theorem steps2_more : ∀ (b i j : Nat), i ≤ j → j < 2 ^ b → steps2 (b + 1) i j = steps2 b i j
  | 0, i, j, h, hj => by
    have h1 : j = 0 := by simp at hj; exact hj
    have h2 : i = 0 := by omega
    subst h1 h2
    rw [steps2_zero]; rfl
  | b + 1, i, j, h, hj => by
    have e : 2 ^ (b + 1) = 2 * 2 ^ b := by rw [Nat.pow_succ]; omega
    have := steps2_more b (i / 2) (j / 2) (by omega) (by omega)
    unfold steps2
    rw [this]
theorem steps2_fuel {b i j : Nat} (h : i ≤ j) (hj : j < 2 ^ b) : ∀ c : Nat, steps2 (b + c) i j = steps2 b i j
  | 0 => rfl
  | c + 1 => by
    rw [← Nat.add_assoc, steps2_more (b + c) i j h (Nat.lt_of_lt_of_le hj (Nat.pow_le_pow_right (by omega) (by omega))), steps2_fuel h hj c]
theorem steps2_any {b c i j : Nat} (h : i ≤ j) (hb : j < 2 ^ b) (hc : j < 2 ^ c) : steps2 b i j = steps2 c i j := by
  rcases Nat.le_total b c with hbc | hbc
  · obtain ⟨d, rfl⟩ := Nat.exists_eq_add_of_le hbc
    exact (steps2_fuel h hb d).symm
  · obtain ⟨d, rfl⟩ := Nat.exists_eq_add_of_le hbc
    exact steps2_fuel h hc d
/-- Below the top: on the left. -/
theorem steps2_low : ∀ (b i j : Nat), i < 2 ^ b → 2 ^ b ≤ j → j < 2 ^ (b + 1) → steps2 (b + 1) i j = steps2 b i (2 ^ b - 1) ++ [false]
  | 0, i, j, h1, h2, h3 => by
    have e1 : i = 0 := by simp at h1; exact h1
    have e2 : j = 1 := by simp at h2 h3; omega
    subst e1 e2
    rfl
  | b + 1, i, j, h1, h2, h3 => by
    have e : 2 ^ (b + 1) = 2 * 2 ^ b := by rw [Nat.pow_succ]; omega
    have e' : 2 ^ (b + 1 + 1) = 2 * 2 ^ (b + 1) := by rw [Nat.pow_succ]; omega
    have hp : 0 < 2 ^ b := Nat.two_pow_pos b
    have ih := steps2_low b (i / 2) (j / 2) (by omega) (by omega) (by omega)
    have eh : (2 ^ (b + 1) - 1) / 2 = 2 ^ b - 1 := by omega
    rw [show steps2 (b + 1 + 1) i j = (if i % 2 = 1 then [true] else if i < j then [false] else []) ++ steps2 (b + 1) (i / 2) (j / 2) from rfl, ih,
      show steps2 (b + 1) i (2 ^ (b + 1) - 1) = (if i % 2 = 1 then [true] else if i < 2 ^ (b + 1) - 1 then [false] else []) ++ steps2 b (i / 2) ((2 ^ (b + 1) - 1) / 2) from rfl, eh, List.append_assoc]
    by_cases ho : i % 2 = 1
    · rw [if_pos ho, if_pos ho]
    · rw [if_neg ho, if_neg ho, if_pos (by omega), if_pos (by omega)]
/-- Below the top: on the right. -/
theorem steps2_high : ∀ (b i j : Nat), i ≤ j → j < 2 ^ b → steps2 (b + 1) (2 ^ b + i) (2 ^ b + j) = steps2 b i j ++ [true]
  | 0, i, j, h1, h2 => by
    have e1 : j = 0 := by simp at h2; exact h2
    have e2 : i = 0 := by omega
    subst e1 e2
    rfl
  | b + 1, i, j, h1, h2 => by
    have e : 2 ^ (b + 1) = 2 * 2 ^ b := by rw [Nat.pow_succ]; omega
    have ih := steps2_high b (i / 2) (j / 2) (by omega) (by omega)
    have e1 : (2 ^ (b + 1) + i) / 2 = 2 ^ b + i / 2 := by omega
    have e2 : (2 ^ (b + 1) + j) / 2 = 2 ^ b + j / 2 := by omega
    rw [show steps2 (b + 1 + 1) (2 ^ (b + 1) + i) (2 ^ (b + 1) + j) = (if (2 ^ (b + 1) + i) % 2 = 1 then [true] else if (2 ^ (b + 1) + i) < (2 ^ (b + 1) + j) then [false] else []) ++ steps2 (b + 1) ((2 ^ (b + 1) + i) / 2) ((2 ^ (b + 1) + j) / 2) from rfl, e1, e2, ih,
      show steps2 (b + 1) i j = (if i % 2 = 1 then [true] else if i < j then [false] else []) ++ steps2 b (i / 2) (j / 2) from rfl, List.append_assoc]
    have e3 : (2 ^ (b + 1) + i) % 2 = i % 2 := by omega
    rw [e3]
    by_cases ho : i % 2 = 1
    · rw [if_pos ho, if_pos ho]
    · rw [if_neg ho, if_neg ho]
      by_cases hl : i < j
      · rw [if_pos hl, if_pos (by omega)]
      · rw [if_neg hl, if_neg (by omega)]
section
variable {D : Type} (N : D → D → D) (E : D)
/-- Both roots by such steps. -/
def run2 : List Bool → D → D → List D → Option (D × D)
  | [], f, s, [] => some (f, s)
  | [], _, _, _ :: _ => none
  | _ :: _, _, _, [] => none
  | true :: ts, f, s, d :: q => run2 ts (N d f) (N d s) q
  | false :: ts, f, s, d :: q => run2 ts f (N s d) q
theorem run2_nil (f s : D) : run2 N [] f s [] = some (f, s) := rfl
theorem run2_over (f s d : D) (q : List D) : run2 N [] f s (d :: q) = none := rfl
theorem run2_short (t : Bool) (ts : List Bool) (f s : D) : run2 N (t :: ts) f s [] = none := by cases t <;> rfl
theorem run2_left (ts : List Bool) (f s d : D) (q : List D) : run2 N (true :: ts) f s (d :: q) = run2 N ts (N d f) (N d s) q := rfl
theorem run2_right (ts : List Bool) (f s d : D) (q : List D) : run2 N (false :: ts) f s (d :: q) = run2 N ts f (N s d) q := rfl
theorem run2_snoc_left (d : D) : ∀ (ts : List Bool) (f s : D) (q : List D), run2 N (ts ++ [true]) f s (q ++ [d]) = (run2 N ts f s q).map fun x => (N d x.1, N d x.2)
  | [], f, s, [] => rfl
  | [], f, s, e :: q => by
    rw [List.nil_append, List.cons_append, run2_left, run2_over]
    cases q <;> rfl
  | t :: ts, f, s, [] => by
    rw [run2_short]
    cases t <;> (cases ts <;> rfl)
  | true :: ts, f, s, e :: q => by
    rw [List.cons_append, List.cons_append, run2_left, run2_left, run2_snoc_left d ts]
  | false :: ts, f, s, e :: q => by
    rw [List.cons_append, List.cons_append, run2_right, run2_right, run2_snoc_left d ts]
theorem run2_snoc_right (d : D) : ∀ (ts : List Bool) (f s : D) (q : List D), run2 N (ts ++ [false]) f s (q ++ [d]) = (run2 N ts f s q).map fun x => (x.1, N x.2 d)
  | [], f, s, [] => rfl
  | [], f, s, e :: q => by
    rw [List.nil_append, List.cons_append, run2_right, run2_over]
    cases q <;> rfl
  | t :: ts, f, s, [] => by
    rw [run2_short]
    cases t <;> (cases ts <;> rfl)
  | true :: ts, f, s, e :: q => by
    rw [List.cons_append, List.cons_append, run2_left, run2_left, run2_snoc_right d ts]
  | false :: ts, f, s, e :: q => by
    rw [List.cons_append, List.cons_append, run2_right, run2_right, run2_snoc_right d ts]
theorem run2_snoc_nil (k : Bool) (ts : List Bool) (f s : D) : run2 N (ts ++ [k]) f s [] = none := by
  cases ts with
  | nil => exact run2_short N _ _ _ _
  | cons t ts => exact run2_short N _ _ _ _
/-- With the first node out of the proof, or not. -/
def first2 (i : Nat) (wh : Bool) (ts : List Bool) (one : D) (p : List D) : Option (D × D) :=
  if i = 0 ∧ wh = true then run2 N ts one one p else match p with
    | [] => none
    | x :: q => run2 N ts x x q
theorem begun_wh {i : Nat} {wh : Bool} (ts : List Bool) (one : D) (p : List D) (h : i = 0 ∧ wh = true) : first2 N i wh ts one p = run2 N ts one one p := if_pos h
theorem begun_nil {i : Nat} {wh : Bool} (ts : List Bool) (one : D) (h : ¬ (i = 0 ∧ wh = true)) : first2 N i wh ts one [] = none := if_neg h
theorem begun_cons {i : Nat} {wh : Bool} (ts : List Bool) (one x : D) (q : List D) (h : ¬ (i = 0 ∧ wh = true)) : first2 N i wh ts one (x :: q) = run2 N ts x x q := if_neg h
theorem begun_snoc_right (d : D) (i : Nat) (wh : Bool) (ts : List Bool) (one : D) (q : List D) : first2 N i wh (ts ++ [false]) one (q ++ [d]) = (first2 N i wh ts one q).map fun x => (x.1, N x.2 d) := by
  by_cases h : i = 0 ∧ wh = true
  · rw [begun_wh N _ _ _ h, begun_wh N _ _ _ h, run2_snoc_right]
  · cases q with
    | nil => rw [List.nil_append, begun_nil N _ _ h, begun_cons N _ _ _ _ h, run2_snoc_nil]; rfl
    | cons x q => rw [List.cons_append, begun_cons N _ _ _ _ h, begun_cons N _ _ _ _ h, run2_snoc_right]
theorem begun_snoc_left (d : D) (i i' : Nat) (wh wh' : Bool) (ts : List Bool) (one : D) (q : List D) (h : ¬ (i = 0 ∧ wh = true)) (h' : ¬ (i' = 0 ∧ wh' = true)) : first2 N i wh (ts ++ [true]) one (q ++ [d]) = (first2 N i' wh' ts one q).map fun x => (N d x.1, N d x.2) := by
  cases q with
  | nil => rw [List.nil_append, begun_nil N _ _ h', begun_cons N _ _ _ _ h, run2_snoc_nil]; rfl
  | cons x q => rw [List.cons_append, begun_cons N _ _ _ _ h, begun_cons N _ _ _ _ h', run2_snoc_left]
theorem begun_snoc_nil (i : Nat) (wh k : Bool) (ts : List Bool) (one : D) : first2 N i wh (ts ++ [k]) one [] = none := by
  by_cases h : i = 0 ∧ wh = true
  · rw [begun_wh N _ _ _ h, run2_snoc_nil]
  · exact begun_nil N _ _ h
/-- The steps lead where the definition does. -/
theorem roots_begun : ∀ (g m n t i b : Nat) (wh : Bool) (one : D) (p : List D), n ≤ g → 1 ≤ m → m < n ∨ m = n ∧ i = 0 → m = 2 ^ t * (i + 1) → i % 2 = 0 → (n - 1) / 2 ^ t < 2 ^ b →
    roots N m n wh one p = first2 N i wh (steps2 b i ((n - 1) / 2 ^ t)) one p := by
  intro g
  induction g with
  | zero => intro m n t i b wh one p hg h1 h2 hm hi hb; omega
  | succ g ih =>
    intro m n t i b wh one p hg h1 h2 hm hi hb
    have hpt : 0 < 2 ^ t := Nat.two_pow_pos t
    by_cases hmn : m = n
    · have hi0 : i = 0 := by omega
      subst hi0
      have ej : (n - 1) / 2 ^ t = 0 := Nat.div_eq_of_lt (by rw [← hmn, hm]; omega)
      rw [ej, steps2_zero]
      subst hmn
      rw [roots_all]
      cases wh with
      | true =>
        rw [begun_wh N _ _ _ ⟨rfl, rfl⟩]
        cases p with
        | nil => rfl
        | cons x q => rfl
      | false =>
        match p with
        | [] => rfl
        | [x] => rfl
        | x :: y :: q => rfl
    · have hlt : m < n := by omega
      obtain ⟨a1, a2, a3, B, hB⟩ := split_spec (n := n) (by omega)
      obtain ⟨k, hk⟩ : ∃ k, k = split n := ⟨_, rfl⟩
      rw [← hk] at a1 a2 a3 hB
      have hmp : 2 ^ t ≤ m := by rw [hm]; exact Nat.le_mul_of_pos_right _ (by omega)
      have htB : t ≤ B := by
        have : 2 ^ t < 2 ^ (B + 1) := by rw [Nat.pow_succ]; omega
        have := (Nat.pow_lt_pow_iff_right (a := 2) (by omega)).1 this
        omega
      obtain ⟨c, hc⟩ := Nat.exists_eq_add_of_le htB
      have hkc : k = 2 ^ t * 2 ^ c := by rw [hB, hc, Nat.pow_add]
      have hc1 : 0 < 2 ^ c := Nat.two_pow_pos c
      have e2 : 2 ^ (c + 1) = 2 * 2 ^ c := by rw [Nat.pow_succ]; omega
      have hJ1 : 2 ^ c ≤ (n - 1) / 2 ^ t := (Nat.le_div_iff_mul_le hpt).2 (by rw [Nat.mul_comm, ← hkc]; omega)
      have hJ2 : (n - 1) / 2 ^ t < 2 ^ (c + 1) := (Nat.div_lt_iff_lt_mul hpt).2 (by rw [e2, Nat.mul_assoc, Nat.mul_comm (2 ^ c), ← hkc]; omega)
      by_cases hmk : m ≤ k
      · have hic : i + 1 ≤ 2 ^ c := Nat.le_of_mul_le_mul_left (by rw [← hm, ← hkc]; exact hmk) hpt
        rw [steps2_any (b := b) (c := c + 1) (by omega) hb hJ2, steps2_low c i _ (by omega) hJ1 hJ2]
        rcases List.eq_nil_or_concat p with rfl | ⟨q, d, rfl⟩
        · rw [roots_nil N h1 hlt, begun_snoc_nil]
        · rw [List.concat_eq_append, roots_left N hk h1 hlt hmk, begun_snoc_right]
          have ek : (k - 1) / 2 ^ t = 2 ^ c - 1 := by
            rw [hkc]
            exact Nat.div_eq_of_lt_le (by rw [Nat.sub_mul, Nat.mul_comm (2 ^ c)]; omega) (by rw [Nat.sub_add_cancel hc1, Nat.mul_comm (2 ^ c)]; have := Nat.mul_pos hpt hc1; omega)
          have hor : m < k ∨ m = k ∧ i = 0 := by
            rcases Nat.lt_or_eq_of_le hmk with h | h
            · exact Or.inl h
            · refine Or.inr ⟨h, ?_⟩
              have e1 : i + 1 = 2 ^ c := Nat.eq_of_mul_eq_mul_left hpt (by rw [← hm, ← hkc]; exact h)
              cases c with
              | zero => simp at e1; exact e1
              | succ c => rw [Nat.pow_succ] at e1; omega
          rw [ih m k t i c wh one q (by omega) h1 hor hm hi (by rw [ek]; omega), ek]
      · have hcp : 0 < c := by
          rcases Nat.eq_zero_or_pos c with h0 | h0
          · subst h0
            exfalso
            simp only [Nat.pow_zero, Nat.mul_one] at hkc
            cases i with
            | zero => omega
            | succ i => rw [Nat.mul_succ, Nat.mul_succ] at hm; omega
          · exact h0
        obtain ⟨c', rfl⟩ : ∃ c', c = c' + 1 := ⟨c - 1, by omega⟩
        have e3 : 2 ^ (c' + 1) = 2 * 2 ^ c' := by rw [Nat.pow_succ]; omega
        have hic : 2 ^ (c' + 1) < i + 1 := Nat.lt_of_mul_lt_mul_left (a := 2 ^ t) (by rw [← hm, ← hkc]; omega)
        obtain ⟨i', hi'⟩ : ∃ i', i = 2 ^ (c' + 1) + i' := ⟨i - 2 ^ (c' + 1), by omega⟩
        have hm' : m - k = 2 ^ t * (i' + 1) := by rw [hm, hkc, hi', Nat.add_assoc, Nat.mul_add]; omega
        have ej : (n - 1) / 2 ^ t = 2 ^ (c' + 1) + (n - k - 1) / 2 ^ t := by
          rw [show n - 1 = 2 ^ t * 2 ^ (c' + 1) + (n - k - 1) by rw [← hkc]; omega, Nat.mul_add_div hpt]
        have hj' : (n - k - 1) / 2 ^ t < 2 ^ (c' + 1) := by omega
        have hij : i' ≤ (n - k - 1) / 2 ^ t := (Nat.le_div_iff_mul_le hpt).2 (by rw [Nat.mul_comm]; rw [Nat.mul_succ] at hm'; omega)
        rw [steps2_any (b := b) (c := c' + 1 + 1) (by omega) hb hJ2, ej, hi', steps2_high (c' + 1) i' _ hij hj']
        have hni : ¬ (2 ^ (c' + 1) + i' = 0 ∧ wh = true) := fun h => by omega
        have hnf : ¬ (i' = 0 ∧ false = true) := fun h => by cases h.2
        rcases List.eq_nil_or_concat p with rfl | ⟨q, d, rfl⟩
        · rw [roots_nil N h1 hlt, begun_snoc_nil]
        · rw [List.concat_eq_append, roots_right N hk h1 hlt hmk, begun_snoc_left N d _ i' wh false _ _ _ hni hnf,
            ih (m - k) (n - k) t i' (c' + 1) false one q (by omega) (by omega) (Or.inl (by omega)) hm' (by omega) hj']
end
/-- The nodes that the code climbs from. -/
def At2 (m n i j : Nat) : Prop := ∃ t, m = 2 ^ t * (i + 1) ∧ j = (n - 1) / 2 ^ t
theorem At2.start {m n : Nat} (h : 1 ≤ m) : At2 m n (m - 1) (n - 1) := ⟨0, by simp; omega, by simp⟩
theorem At2.up {m n i j : Nat} (h : At2 m n i j) (ho : i % 2 = 1) : At2 m n (i / 2) (j / 2) := by
  obtain ⟨t, h1, h2⟩ := h
  refine ⟨t + 1, ?_, ?_⟩
  · rw [h1, Nat.pow_succ, Nat.mul_assoc]; congr 1; omega
  · rw [h2, Nat.pow_succ, Nat.div_div_eq_div_mul]
theorem At2.le {m n i j : Nat} (h : At2 m n i j) (hmn : m ≤ n) : i ≤ j ∧ j < n ∨ n = 0 := by
  obtain ⟨t, h1, h2⟩ := h
  have hpt : 0 < 2 ^ t := Nat.two_pow_pos t
  rcases Nat.eq_zero_or_pos n with h0 | h0
  · exact Or.inr h0
  · refine Or.inl ⟨?_, ?_⟩
    · rw [h2]
      refine (Nat.le_div_iff_mul_le hpt).2 ?_
      rw [Nat.mul_comm]; rw [Nat.mul_succ] at h1; omega
    · rw [h2]; have := Nat.div_le_self (n - 1) (2 ^ t); omega
theorem At2.roots {D : Type} (N : D → D → D) {m n i j : Nat} (h : At2 m n i j) (he : i % 2 = 0) (h1 : 1 ≤ m) (h2 : m < n) (b : Nat) (hb : j < 2 ^ b) (wh : Bool) (one : D) (p : List D) :
    roots N m n wh one p = first2 N i wh (steps2 b i j) one p := by
  obtain ⟨t, e1, e2⟩ := h
  subst e2
  exact roots_begun N n m n t i b wh one p (Nat.le_refl _) h1 (Or.inl h2) e1 he hb
/-- One step of the steps from nodes below 2^40. -/
theorem st_step {i j : Nat} (h : i ≤ j) (hj : j < 1099511627776) : steps2 40 i j = (if i % 2 = 1 then [true] else if i < j then [false] else []) ++ steps2 40 (i / 2) (j / 2) := by
  have e : (2 : Nat) ^ 40 = 1099511627776 := by decide
  rw [← steps2_more 40 i j h (by rw [e]; exact hj)]
  rfl
theorem st_left {i j : Nat} (h : i ≤ j) (hj : j < 1099511627776) (ho : i % 2 = 1) : steps2 40 i j = true :: steps2 40 (i / 2) (j / 2) := by rw [st_step h hj, if_pos ho]; rfl
theorem st_right {i j : Nat} (h : i ≤ j) (hj : j < 1099511627776) (ho : i % 2 = 0) (hl : i < j) : steps2 40 i j = false :: steps2 40 (i / 2) (j / 2) := by rw [st_step h hj, if_neg (by omega), if_pos hl]; rfl
theorem st_skip {i j : Nat} (h : i ≤ j) (hj : j < 1099511627776) (ho : i % 2 = 0) (hl : ¬ i < j) : steps2 40 i j = steps2 40 (i / 2) (j / 2) := by rw [st_step h hj, if_neg (by omega), if_neg hl]; rfl
theorem steps2_pos : ∀ (b i j : Nat), i ≤ j → 0 < j → j < 2 ^ b → steps2 b i j ≠ []
  | 0, i, j, _, h0, hb => by simp at hb; omega
  | b + 1, i, j, h, h0, hb => by
    have e : 2 ^ (b + 1) = 2 * 2 ^ b := by rw [Nat.pow_succ]; omega
    unfold steps2
    by_cases ho : i % 2 = 1
    · rw [if_pos ho]; simp
    · rw [if_neg ho]
      by_cases hl : i < j
      · rw [if_pos hl]; simp
      · rw [if_neg hl, List.nil_append]
        exact steps2_pos b (i / 2) (j / 2) (by omega) (by omega) (by omega)
theorem st_short {D : Type} (N : D → D → D) {i j : Nat} (h : i ≤ j) (h0 : 0 < j) (hj : j < 1099511627776) (f s : D) : run2 N (steps2 40 i j) f s [] = none := by
  have e : (2 : Nat) ^ 40 = 1099511627776 := by decide
  have := steps2_pos 40 i j h h0 (by rw [e]; exact hj)
  match hs : steps2 40 i j with
  | [] => exact absurd hs this
  | t :: ts => exact run2_short N _ _ _ _
theorem drop_get {D : Type} {l : List D} {k : Nat} {x : D} (h : l[k]? = some x) : l.drop k = x :: l.drop (k + 1) := by
  obtain ⟨h1, h2⟩ := List.getElem?_eq_some_iff.1 h
  rw [List.drop_eq_getElem_cons h1, h2]
end Go.Proofs.YtldghdbbooopdaaDoor.ConsW

/- cons: recomputed, accepted, Check. -/
namespace Go.Proofs.YtldghdbbooopdaaDoor.CoW
open Go.RowKit TreeW ConsW TrW
open ShaW Sha
theorem run_rest (w' : World) (A : Option Addr) (l c : Nat) (h : 1 ≤ l) : (Instr.slice 22 (.slice A l c) (some (.int .i64 1)) none none).run Tryd.prog w' = .ok (.slice (if c = 1 then A else A.map (·.add 1)) (l - 1) (c - 1)) w' := by
  have := run_from (P := Tryd.prog) strsTy w' A l c 1 .i64 h
  exact this
set_option maxRecDepth 1000000 in
set_option maxHeartbeats 4000000 in
theorem recomputed_any (m n : Nat) (one two : ByteArray) (A : Option Addr) (l c : Nat) (ss : List ByteArray) (w : World) (hT : Tab w) (h1 : 1 ≤ m) (h2 : m < n) (hn : n ≤ 1099511627776) (h4 : one.size = 32) (hl : ss.length = l) (hs : Sl w A (scells ss)) (hlc : l ≤ c) (hc63 : c ≤ 9223372036854775807) (hd : Digs ss) :
    Calls Tryd.prog 34 #[.int .i64 (m : Int), .int .i64 (n : Int), .string one, .string two, .slice A l c] w fun e w' => ∃ b, e = .returned (.bool b) ∧ (b = true ↔ ro m n true one ss = some (one, two)) ∧ Below w.heap.size w w' := by
  have hpos := hT.pos
  have HT := Lib.hid (fun W (hb : Below w.heap.size w W) => hT.below hb hpos)
  have HL := Lib.hid hl
  have HD := Lib.hid hd
  have H4 := Lib.hid h4
  have HA0 := Lib.hid (At2.start (n := n) h1)
  obtain ⟨R, hR⟩ : ∃ R, R = ro m n true one ss := ⟨_, rfl⟩
  rw [← hR]
  have HRO := Lib.hid hR
  clear hl hd h4 hT hpos hR
  go_enter Tryd.func34, Tryd.ntmps34
  go_wp2_with fail
  go_step3
  go_wp2_with fail
  go_loopw [11, 12] (fun vi vj wr => ∃ i j : Nat, vi = .int .i64 (i : Int) ∧ vj = .int .i64 (j : Int) ∧ Hid (At2 m n i j) ∧ w = wr) (fun vi _ _ => (intOf vi).toNat)
  case atStart => exact ⟨m - 1, n - 1, by go_num, by go_num, HA0, rfl⟩
  case round =>
    obtain ⟨i, j, rfl, rfl, HA, rfl⟩ := hrel
    have hij := HA.out.le (by omega)
    have hij1 : i ≤ j := by omega
    have hj40 : j < 1099511627776 := by omega
    clear hij
    have hand := and_one i (by omega)
    by_cases hod : i % 2 = 1
    · rw [hod] at hand
      have HU := Lib.hid (HA.out.up hod)
      go_wp2_with fail
      clear hand
      go_roundw
      case rel => exact ⟨i / 2, j / 2, by go_num, by go_num, HU, by first | rfl | trivial⟩
      case measure => simp [intOf]; omega
    · have hev : i % 2 = 0 := by omega
      have HR0 : Hid (R = first2 nd i true (steps2 40 i j) one ss) := by
        show _ = _
        rw [HRO.out]
        exact HA.out.roots nd hev h1 h2 40 (by rw [show (2 : Nat) ^ 40 = 1099511627776 by decide]; exact hj40) true one ss
      rw [hev] at hand
      clear hod hev HA HA0
      by_cases hi0 : i = 0
      · have HRR : Hid (R = run2 nd (steps2 40 i j) one one (ss.drop 0)) := by show _ = _; rw [HR0.out, begun_wh nd _ _ _ ⟨hi0, rfl⟩, List.drop_zero]
        have HF32 := H4
        have HLL := HL
        have HDD := HD
        have hsl := hs
        have hip : ¬ (i : Int) > 0 := by omega
        clear HR0 hi0 hs
        go_wp2_with fail
        clear hand hip
        go_wp2_with fail
        go_step3
        go_wp2_with fail
        go_loopw [11, 12, 13, 14, 44] (fun vi vj vf vs vk wr => ∃ (i j k : Nat) (f s : ByteArray), i ≤ j ∧ j < 1099511627776 ∧ k ≤ l ∧ vi = .int .i64 (i : Int) ∧ vj = .int .i64 (j : Int) ∧ vf = .string f ∧ vs = .string s ∧ vk = .int .i64 (k : Int) ∧ Hid (f.size = 32) ∧ Hid (s.size = 32) ∧ Hid (R = run2 nd (steps2 40 i j) f s (ss.drop k)) ∧ Below w.heap.size w wr) (fun _ _ _ _ vk _ => l - (intOf vk).toNat)
        case atStart => exact ⟨i, j, 0, one, one, hij1, hj40, Nat.zero_le _, rfl, rfl, rfl, rfl, rfl, HF32, HF32, HRR, Below.refl _ _⟩
        case round =>
          clear HRR HF32 hj40 hij1
          obtain ⟨i, j, k, f, s, hij, hj40, hk, rfl, rfl, rfl, rfl, rfl, HF, HS, HR, hbel⟩ := hrel
          by_cases hlt : k < l
          · obtain ⟨b, o, rfl, hblt, hcell⟩ := hsl.get (j := k) (by rw [scells_len, HLL.out]; exact hlt)
            have hget := get_of (ss := ss) (j := k) (by rw [HLL.out]; exact hlt)
            obtain ⟨d, hd⟩ : ∃ d, ss.getD k ⟨#[]⟩ = d := ⟨_, rfl⟩
            rw [hd] at hget
            have hc0 := (hbel.cell (p := ⟨b, o + k, none⟩) hblt).trans (hcell k _ (scells_at hget))
            have HDR := Lib.hid (drop_get hget)
            have H32 := Lib.hid (HDD.out d (List.mem_of_getElem? hget))
            clear hcell hget hd
            go_wp2_with fail
            go_loopw [11, 12, 13, 14] (fun vi vj vf vs wi => ∃ (i j : Nat), i ≤ j ∧ j < 1099511627776 ∧ vi = .int .i64 (i : Int) ∧ vj = .int .i64 (j : Int) ∧ vf = .string f ∧ vs = .string s ∧ Hid (R = run2 nd (steps2 40 i j) f s (ss.drop k)) ∧ wr = wi) (fun _ vj _ _ _ => (intOf vj).toNat)
            case atStart => exact ⟨i, j, hij, hj40, rfl, rfl, rfl, rfl, HR, rfl⟩
            case round =>
              clear HR hij hj40
              obtain ⟨i, j, hij, hj40, rfl, rfl, rfl, rfl, HR, rfl⟩ := hrel
              by_cases hj0 : 0 < j
              · have hjp : (j : Int) > 0 := by omega
                have hand := and_one i (by omega)
                by_cases hod : i % 2 = 1
                · have HN : Hid (R = run2 nd (steps2 40 (i / 2) (j / 2)) (nd d f) (nd d s) (ss.drop (k + 1))) := by
                    show _ = _
                    rw [HR.out, HDR.out, st_left hij hj40 hod]; rfl
                  rw [hod] at hand
                  by_cases hl : i < j
                  · go_wp2_with fail
                    refine (cnode_any d f _ (HT.out _ hbel) H32.out HF.out).mono ?_
                    rintro e w3 ⟨rfl, hb3⟩
                    have b3 := hbel.trans (hb3.mono hbel.size)
                    go_wp2_with fail
                    refine (cnode_any d s _ (HT.out _ b3) H32.out HS.out).mono ?_
                    rintro e w4 ⟨rfl, hb4⟩
                    have b4 := b3.trans (hb4.mono b3.size)
                    clear hand hjp
                    go_wp2_with fail
                    go_roundw
                    case rel => first | exact ⟨i / 2, j / 2, k + 1, nd d f, nd d s, by omega, by omega, by omega, by go_num, by go_num, rfl, rfl, by go_num, nd_size _ _, nd_size _ _, HN, b4⟩ | ((repeat apply Exists.intro); exact ⟨⟨i / 2, j / 2, k + 1, nd d f, nd d s, by omega, by omega, by omega, by go_num, by go_num, rfl, rfl, by go_num, nd_size _ _, nd_size _ _, HN, b4⟩, rfl⟩)
                    case measure => simp [intOf]; omega
                  · go_wp2_with fail
                    refine (cnode_any d f _ (HT.out _ hbel) H32.out HF.out).mono ?_
                    rintro e w3 ⟨rfl, hb3⟩
                    have b3 := hbel.trans (hb3.mono hbel.size)
                    go_wp2_with fail
                    refine (cnode_any d s _ (HT.out _ b3) H32.out HS.out).mono ?_
                    rintro e w4 ⟨rfl, hb4⟩
                    have b4 := b3.trans (hb4.mono b3.size)
                    clear hand hjp
                    go_wp2_with fail
                    go_roundw
                    case rel => first | exact ⟨i / 2, j / 2, k + 1, nd d f, nd d s, by omega, by omega, by omega, by go_num, by go_num, rfl, rfl, by go_num, nd_size _ _, nd_size _ _, HN, b4⟩ | ((repeat apply Exists.intro); exact ⟨⟨i / 2, j / 2, k + 1, nd d f, nd d s, by omega, by omega, by omega, by go_num, by go_num, rfl, rfl, by go_num, nd_size _ _, nd_size _ _, HN, b4⟩, rfl⟩)
                    case measure => simp [intOf]; omega
                · have hev : i % 2 = 0 := by omega
                  rw [hev] at hand
                  by_cases hl : i < j
                  · have HN : Hid (R = run2 nd (steps2 40 (i / 2) (j / 2)) f (nd s d) (ss.drop (k + 1))) := by
                      show _ = _
                      rw [HR.out, HDR.out, st_right hij hj40 hev hl]; rfl
                    clear hod hev
                    go_wp2_with fail
                    refine (cnode_any s d _ (HT.out _ hbel) HS.out H32.out).mono ?_
                    rintro e w3 ⟨rfl, hb3⟩
                    have b3 := hbel.trans (hb3.mono hbel.size)
                    clear hand hjp
                    go_wp2_with fail
                    go_roundw
                    case rel => first | exact ⟨i / 2, j / 2, k + 1, f, nd s d, by omega, by omega, by omega, by go_num, by go_num, rfl, rfl, by go_num, HF, nd_size _ _, HN, b3⟩ | ((repeat apply Exists.intro); exact ⟨⟨i / 2, j / 2, k + 1, f, nd s d, by omega, by omega, by omega, by go_num, by go_num, rfl, rfl, by go_num, HF, nd_size _ _, HN, b3⟩, rfl⟩)
                    case measure => simp [intOf]; omega
                  · have HN : Hid (R = run2 nd (steps2 40 (i / 2) (j / 2)) f s (ss.drop k)) := by
                      show _ = _
                      rw [HR.out, st_skip hij hj40 hev hl]
                    clear hod hev
                    go_wp2_with fail
                    clear hand hjp
                    go_roundw
                    case rel => exact ⟨i / 2, j / 2, by omega, by omega, by go_num, by go_num, rfl, rfl, HN, by first | rfl | trivial⟩
                    case measure => simp [intOf]; omega
              · have HN : Hid (R = none) := by
                  show _ = _
                  have h1 : j = 0 := by omega
                  have h2 : i = 0 := by omega
                  rw [HR.out, HDR.out, h1, h2, steps2_zero]; rfl
                have hjp : ¬ (j : Int) > 0 := by omega
                go_wp2_with fail
                try rw [Exit.noGoto_ret]
                go_ret
                exact ⟨false, rfl, ⟨(fun h => by cases h), fun h => by rw [HN.out] at h; cases h⟩, hbel⟩
          · have hkl : k = l := by omega
            have HE : Hid (ss.drop k = []) := List.drop_eq_nil_of_le (by rw [HLL.out]; omega)
            by_cases hj0 : j = 0
            · have HN : Hid (R = some (f, s)) := by
                show _ = _
                have h2 : i = 0 := by omega
                rw [HR.out, HE.out, hj0, h2, steps2_zero]; rfl
              subst hj0
              by_cases h1 : f = one
              · by_cases h2 : s = two
                · have e1 := SealW.beq_yes h1
                  have e2 := SealW.beq_yes h2
                  have HQ : Hid (R = some (one, two)) := by show _ = _; rw [HN.out, h1, h2]
                  clear h1 h2
                  go_wp2_with fail
                  try rw [Exit.noGoto_ret]
                  go_ret
                  exact ⟨true, rfl, ⟨fun _ => HQ.out, fun _ => rfl⟩, hbel⟩
                · have e1 := SealW.beq_yes h1
                  have e2 := SealW.beq_no h2
                  have HQ : Hid (R ≠ some (one, two)) := by show _ ≠ _; rw [HN.out]; exact fun h => h2 (by cases h; rfl)
                  clear h1 h2
                  go_wp2_with fail
                  try rw [Exit.noGoto_ret]
                  go_ret
                  exact ⟨false, rfl, ⟨(fun h => by cases h), fun h => absurd h HQ.out⟩, hbel⟩
              · have e1 := SealW.beq_no h1
                have HQ : Hid (R ≠ some (one, two)) := by show _ ≠ _; rw [HN.out]; exact fun h => h1 (by cases h; rfl)
                clear h1
                go_wp2_with fail
                try rw [Exit.noGoto_ret]
                go_ret
                exact ⟨false, rfl, ⟨(fun h => by cases h), fun h => absurd h HQ.out⟩, hbel⟩
            · have HN : Hid (R = none) := by
                show _ = _
                rw [HR.out, HE.out, st_short nd hij (by omega) hj40]
              have hjn : ((j : Int) == 0) = false := by simpa using hj0
              go_wp2_with fail
              try rw [Exit.noGoto_ret]
              go_ret
              exact ⟨false, rfl, ⟨(fun h => by cases h), fun h => by rw [HN.out] at h; cases h⟩, hbel⟩
      · have hip : 0 < i := by omega
        by_cases hl0 : l = 0
        · have HN : Hid (R = none) := by
            show _ = _
            rw [HR0.out, List.eq_nil_of_length_eq_zero (HL.out.trans hl0)]
            exact begun_nil nd _ _ (fun h => hi0 h.1)
          subst hl0
          clear hi0
          go_wp2_with fail
          try rw [Exit.noGoto_ret]
          go_ret
          exact ⟨false, rfl, ⟨(fun h => by cases h), fun h => by rw [HN.out] at h; cases h⟩, Below.refl _ _⟩
        obtain ⟨x, xs, hx⟩ : ∃ x xs, ss = x :: xs := by
          cases ss with
          | nil => have := HL.out; simp at this; omega
          | cons x xs => exact ⟨x, xs, rfl⟩
        obtain ⟨q, hq⟩ : ∃ q, q = l - 1 := ⟨_, rfl⟩
        have HRR : Hid (R = run2 nd (steps2 40 i j) x x (xs.drop 0)) := by show _ = _; rw [HR0.out, hx, begun_cons nd _ _ _ _ (fun h => hi0 h.1), List.drop_zero]
        have HLL : Hid (xs.length = q) := by show _ = _; have := HL.out; rw [hx] at this; simp at this; omega
        have HDD : Hid (Digs xs) := fun y hy => HD.out y (by rw [hx]; exact List.mem_cons_of_mem _ hy)
        have HF32 : Hid (x.size = 32) := HD.out x (by rw [hx]; exact List.mem_cons_self)
        have hsl : Sl w (if c = 1 then A else A.map (·.add 1)) (scells xs) := by
          have := hs.cut 1 c (by rw [scells_len, HL.out]; omega)
          rwa [scells_drop, hx, List.drop_succ_cons, List.drop_zero] at this
        obtain ⟨b, o, rfl, hblt, hcell⟩ := hs.get (j := 0) (by rw [scells_len, HL.out]; omega)
        have hc0 := hcell 0 _ (scells_at (x := x) (by rw [hx]; rfl))
        rw [Nat.add_zero] at hc0
        have HRU := Lib.hid (fun w' => run_rest w' (some ⟨b, o, none⟩) l c (by omega))
        obtain ⟨A2, hA2⟩ : ∃ A2, A2 = (if c = 1 then (some ⟨b, o, none⟩ : Option Addr) else (some ⟨b, o, none⟩ : Option Addr).map (·.add 1)) := ⟨_, rfl⟩
        rw [← hA2] at hsl HRU
        rw [← hq] at HRU
        obtain ⟨c2, hc2⟩ : ∃ c2, c2 = c - 1 := ⟨_, rfl⟩
        rw [← hc2] at HRU
        have hlp : (0 : Int) < (l : Int) := by omega
        have hlne : ((l : Int) == 0) = false := by simpa using hl0
        have hql : q ≤ l := by omega
        clear hcell hA2 hx HR0 hi0 hs hq hc2
        go_wp2_with fail
        refine regB_begin (w.heap.size) (by kernel_rfl) ?_
        change wpAnyH _ _ _ _ _ 7 #[false, false, false, false, false, false, false] _ _
        refine regB_take (i := 0) (d := some 36) (v := (.slice (some ⟨b, o, none⟩) l c)) rfl rfl (by kernel_rfl) (by kernel_rfl) (by kernel_rfl) (fun _ _ _ h => h) (by rfl) (by intro w' hSw; go_simp) ?_
        try simp only [Act.put, List.setIfInBounds_toArray, List.set_cons_zero, List.set_cons_succ]
        refine regB_take (i := 1) (d := some 37) (v := (.pointer (some ⟨b, o, none⟩))) rfl rfl (by kernel_rfl) (by kernel_rfl) (by kernel_rfl) (fun _ _ _ h => h) (by rfl) (by intro w' hSw; go_simp) ?_
        try simp only [Act.put, List.setIfInBounds_toArray, List.set_cons_zero, List.set_cons_succ]
        refine regB_take (i := 3) (d := some 39) (v := (.slice (some ⟨b, o, none⟩) l c)) rfl rfl (by kernel_rfl) (by kernel_rfl) (by kernel_rfl) (fun _ _ _ h => h) (by rfl) (by intro w' hSw; go_simp) ?_
        try simp only [Act.put, List.setIfInBounds_toArray, List.set_cons_zero, List.set_cons_succ]
        refine regB_take (i := 4) (d := some 40) (v := (.slice A2 q c2)) rfl rfl (by kernel_rfl) (by kernel_rfl) (by kernel_rfl) (fun _ _ _ h => h) (by rfl) (by intro w' hSw; have h9 := HRU.out w'; go_simp) ?_
        try simp only [Act.put, List.setIfInBounds_toArray, List.set_cons_zero, List.set_cons_succ]
        refine regB_call (i := 2) rfl (by kernel_rfl) (by rfl) fun K hK => ?_
        refine oper_yields (d := some 38) (v := (.string x)) rfl (by go_simp) ?_
        refine hK.out _ _ (Below.refl _ _) ?_
        clear hK K
        try simp only [Act.put, List.setIfInBounds_toArray, List.set_cons_zero, List.set_cons_succ]
        refine regB_take (i := 5) (d := some 13) (v := (.string x)) rfl rfl (by kernel_rfl) (by kernel_rfl) (by kernel_rfl) (fun _ _ _ h => h) (by rfl) (by intro w' hSw; go_simp) ?_
        try simp only [Act.put, List.setIfInBounds_toArray, List.set_cons_zero, List.set_cons_succ]
        refine regB_take (i := 6) (d := some 4) (v := (.slice A2 q c2)) rfl rfl (by kernel_rfl) (by kernel_rfl) (by kernel_rfl) (fun _ _ _ h => h) (by rfl) (by intro w' hSw; go_simp) ?_
        try simp only [Act.put, List.setIfInBounds_toArray, List.set_cons_zero, List.set_cons_succ]
        refine wpAnyH_done (by kernel_rfl) ?_ _
        clear hand hc0 hblt hlp hlne hl0
        go_wp2_with fail
        go_step3
        go_wp2_with fail
        go_loopw [11, 12, 13, 14, 44] (fun vi vj vf vs vk wr => ∃ (i j k : Nat) (f s : ByteArray), i ≤ j ∧ j < 1099511627776 ∧ k ≤ q ∧ vi = .int .i64 (i : Int) ∧ vj = .int .i64 (j : Int) ∧ vf = .string f ∧ vs = .string s ∧ vk = .int .i64 (k : Int) ∧ Hid (f.size = 32) ∧ Hid (s.size = 32) ∧ Hid (R = run2 nd (steps2 40 i j) f s (xs.drop k)) ∧ Below w.heap.size w wr) (fun _ _ _ _ vk _ => q - (intOf vk).toNat)
        case atStart => exact ⟨i, j, 0, x, x, hij1, hj40, Nat.zero_le _, rfl, rfl, rfl, rfl, rfl, HF32, HF32, HRR, (Below.refl _ _).drew⟩
        case round =>
          clear HRR HF32 hj40 hij1
          obtain ⟨i, j, k, f, s, hij, hj40, hk, rfl, rfl, rfl, rfl, rfl, HF, HS, HR, hbel⟩ := hrel
          by_cases hlt : k < q
          · obtain ⟨b, o, rfl, hblt, hcell⟩ := hsl.get (j := k) (by rw [scells_len, HLL.out]; exact hlt)
            have hget := get_of (ss := xs) (j := k) (by rw [HLL.out]; exact hlt)
            obtain ⟨d, hd⟩ : ∃ d, xs.getD k ⟨#[]⟩ = d := ⟨_, rfl⟩
            rw [hd] at hget
            have hc0 := (hbel.cell (p := ⟨b, o + k, none⟩) hblt).trans (hcell k _ (scells_at hget))
            have HDR := Lib.hid (drop_get hget)
            have H32 := Lib.hid (HDD.out d (List.mem_of_getElem? hget))
            clear hcell hget hd
            go_wp2_with fail
            go_loopw [11, 12, 13, 14] (fun vi vj vf vs wi => ∃ (i j : Nat), i ≤ j ∧ j < 1099511627776 ∧ vi = .int .i64 (i : Int) ∧ vj = .int .i64 (j : Int) ∧ vf = .string f ∧ vs = .string s ∧ Hid (R = run2 nd (steps2 40 i j) f s (xs.drop k)) ∧ wr = wi) (fun _ vj _ _ _ => (intOf vj).toNat)
            case atStart => exact ⟨i, j, hij, hj40, rfl, rfl, rfl, rfl, HR, rfl⟩
            case round =>
              clear HR hij hj40
              obtain ⟨i, j, hij, hj40, rfl, rfl, rfl, rfl, HR, rfl⟩ := hrel
              by_cases hj0 : 0 < j
              · have hjp : (j : Int) > 0 := by omega
                have hand := and_one i (by omega)
                by_cases hod : i % 2 = 1
                · have HN : Hid (R = run2 nd (steps2 40 (i / 2) (j / 2)) (nd d f) (nd d s) (xs.drop (k + 1))) := by
                    show _ = _
                    rw [HR.out, HDR.out, st_left hij hj40 hod]; rfl
                  rw [hod] at hand
                  by_cases hl : i < j
                  · go_wp2_with fail
                    refine (cnode_any d f _ (HT.out _ hbel) H32.out HF.out).mono ?_
                    rintro e w3 ⟨rfl, hb3⟩
                    have b3 := hbel.trans (hb3.mono hbel.size)
                    go_wp2_with fail
                    refine (cnode_any d s _ (HT.out _ b3) H32.out HS.out).mono ?_
                    rintro e w4 ⟨rfl, hb4⟩
                    have b4 := b3.trans (hb4.mono b3.size)
                    clear hand hjp
                    go_wp2_with fail
                    go_roundw
                    case rel => first | exact ⟨i / 2, j / 2, k + 1, nd d f, nd d s, by omega, by omega, by omega, by go_num, by go_num, rfl, rfl, by go_num, nd_size _ _, nd_size _ _, HN, b4⟩ | ((repeat apply Exists.intro); exact ⟨⟨i / 2, j / 2, k + 1, nd d f, nd d s, by omega, by omega, by omega, by go_num, by go_num, rfl, rfl, by go_num, nd_size _ _, nd_size _ _, HN, b4⟩, rfl⟩)
                    case measure => simp [intOf]; omega
                  · go_wp2_with fail
                    refine (cnode_any d f _ (HT.out _ hbel) H32.out HF.out).mono ?_
                    rintro e w3 ⟨rfl, hb3⟩
                    have b3 := hbel.trans (hb3.mono hbel.size)
                    go_wp2_with fail
                    refine (cnode_any d s _ (HT.out _ b3) H32.out HS.out).mono ?_
                    rintro e w4 ⟨rfl, hb4⟩
                    have b4 := b3.trans (hb4.mono b3.size)
                    clear hand hjp
                    go_wp2_with fail
                    go_roundw
                    case rel => first | exact ⟨i / 2, j / 2, k + 1, nd d f, nd d s, by omega, by omega, by omega, by go_num, by go_num, rfl, rfl, by go_num, nd_size _ _, nd_size _ _, HN, b4⟩ | ((repeat apply Exists.intro); exact ⟨⟨i / 2, j / 2, k + 1, nd d f, nd d s, by omega, by omega, by omega, by go_num, by go_num, rfl, rfl, by go_num, nd_size _ _, nd_size _ _, HN, b4⟩, rfl⟩)
                    case measure => simp [intOf]; omega
                · have hev : i % 2 = 0 := by omega
                  rw [hev] at hand
                  by_cases hl : i < j
                  · have HN : Hid (R = run2 nd (steps2 40 (i / 2) (j / 2)) f (nd s d) (xs.drop (k + 1))) := by
                      show _ = _
                      rw [HR.out, HDR.out, st_right hij hj40 hev hl]; rfl
                    clear hod hev
                    go_wp2_with fail
                    refine (cnode_any s d _ (HT.out _ hbel) HS.out H32.out).mono ?_
                    rintro e w3 ⟨rfl, hb3⟩
                    have b3 := hbel.trans (hb3.mono hbel.size)
                    clear hand hjp
                    go_wp2_with fail
                    go_roundw
                    case rel => first | exact ⟨i / 2, j / 2, k + 1, f, nd s d, by omega, by omega, by omega, by go_num, by go_num, rfl, rfl, by go_num, HF, nd_size _ _, HN, b3⟩ | ((repeat apply Exists.intro); exact ⟨⟨i / 2, j / 2, k + 1, f, nd s d, by omega, by omega, by omega, by go_num, by go_num, rfl, rfl, by go_num, HF, nd_size _ _, HN, b3⟩, rfl⟩)
                    case measure => simp [intOf]; omega
                  · have HN : Hid (R = run2 nd (steps2 40 (i / 2) (j / 2)) f s (xs.drop k)) := by
                      show _ = _
                      rw [HR.out, st_skip hij hj40 hev hl]
                    clear hod hev
                    go_wp2_with fail
                    clear hand hjp
                    go_roundw
                    case rel => exact ⟨i / 2, j / 2, by omega, by omega, by go_num, by go_num, rfl, rfl, HN, by first | rfl | trivial⟩
                    case measure => simp [intOf]; omega
              · have HN : Hid (R = none) := by
                  show _ = _
                  have h1 : j = 0 := by omega
                  have h2 : i = 0 := by omega
                  rw [HR.out, HDR.out, h1, h2, steps2_zero]; rfl
                have hjp : ¬ (j : Int) > 0 := by omega
                go_wp2_with fail
                try rw [Exit.noGoto_ret]
                go_ret
                exact ⟨false, rfl, ⟨(fun h => by cases h), fun h => by rw [HN.out] at h; cases h⟩, hbel⟩
          · have hkl : k = q := by omega
            have HE : Hid (xs.drop k = []) := List.drop_eq_nil_of_le (by rw [HLL.out]; omega)
            by_cases hj0 : j = 0
            · have HN : Hid (R = some (f, s)) := by
                show _ = _
                have h2 : i = 0 := by omega
                rw [HR.out, HE.out, hj0, h2, steps2_zero]; rfl
              subst hj0
              by_cases h1 : f = one
              · by_cases h2 : s = two
                · have e1 := SealW.beq_yes h1
                  have e2 := SealW.beq_yes h2
                  have HQ : Hid (R = some (one, two)) := by show _ = _; rw [HN.out, h1, h2]
                  clear h1 h2
                  go_wp2_with fail
                  try rw [Exit.noGoto_ret]
                  go_ret
                  exact ⟨true, rfl, ⟨fun _ => HQ.out, fun _ => rfl⟩, hbel⟩
                · have e1 := SealW.beq_yes h1
                  have e2 := SealW.beq_no h2
                  have HQ : Hid (R ≠ some (one, two)) := by show _ ≠ _; rw [HN.out]; exact fun h => h2 (by cases h; rfl)
                  clear h1 h2
                  go_wp2_with fail
                  try rw [Exit.noGoto_ret]
                  go_ret
                  exact ⟨false, rfl, ⟨(fun h => by cases h), fun h => absurd h HQ.out⟩, hbel⟩
              · have e1 := SealW.beq_no h1
                have HQ : Hid (R ≠ some (one, two)) := by show _ ≠ _; rw [HN.out]; exact fun h => h1 (by cases h; rfl)
                clear h1
                go_wp2_with fail
                try rw [Exit.noGoto_ret]
                go_ret
                exact ⟨false, rfl, ⟨(fun h => by cases h), fun h => absurd h HQ.out⟩, hbel⟩
            · have HN : Hid (R = none) := by
                show _ = _
                rw [HR.out, HE.out, st_short nd hij (by omega) hj40]
              have hjn : ((j : Int) == 0) = false := by simpa using hj0
              go_wp2_with fail
              try rw [Exit.noGoto_ret]
              go_ret
              exact ⟨false, rfl, ⟨(fun h => by cases h), fun h => by rw [HN.out] at h; cases h⟩, hbel⟩

theorem accepted_any (m n : Nat) (one two : ByteArray) (A : Option Addr) (l c : Nat) (ss : List ByteArray) (w : World) (hT : Tab w) (h2 : m ≤ n) (hn : n ≤ 1099511627776) (h4 : one.size = 32) (hl : ss.length = l) (hs : Sl w A (scells ss)) (hlc : l ≤ c) (hc63 : c ≤ 9223372036854775807) (hd : Digs ss) :
    Calls Tryd.prog 23 #[.int .i64 (m : Int), .int .i64 (n : Int), .string one, .string two, .slice A l c] w fun e w' => ∃ b, e = .returned (.bool b) ∧ (b = true ↔ acc m n one two ss) ∧ Below w.heap.size w w' := by
  have HL := Lib.hid hl
  have HD := Lib.hid hd
  have H4 := Lib.hid h4
  clear hl hd h4
  by_cases h0 : m = 0
  · subst h0
    by_cases hz : l = 0
    · have HN : Hid (ss = []) := List.eq_nil_of_length_eq_zero (by rw [HL.out]; exact hz)
      subst hz
      by_cases he : one = ed
      · have e1 := SealW.beq_yes he
        have HA : Hid (acc 0 n one two ss) := (accept_zero nd ed (n := n) (one := one) (two := two) (p := ss)).2 ⟨HN.out, he⟩
        clear he
        go_enter Tryd.func23, Tryd.ntmps23
        go_wp2_with fail
        refine (sum_wide none 0 0 [] _ hT rfl Sl.nil (by omega) (by omega) (by omega)).mono ?_
        rw [show (⟨(sha []).toArray⟩ : ByteArray) = ed from rfl]
        rintro e w1 ⟨rfl, hb1⟩
        go_wp2_with fail
        go_ret
        exact ⟨true, rfl, ⟨fun _ => HA.out, fun _ => rfl⟩, hb1⟩
      · have e1 := SealW.beq_no he
        have HA : Hid (¬ acc 0 n one two ss) := fun h => he ((accept_zero nd ed).1 h).2
        clear he
        go_enter Tryd.func23, Tryd.ntmps23
        go_wp2_with fail
        refine (sum_wide none 0 0 [] _ hT rfl Sl.nil (by omega) (by omega) (by omega)).mono ?_
        rw [show (⟨(sha []).toArray⟩ : ByteArray) = ed from rfl]
        rintro e w1 ⟨rfl, hb1⟩
        go_wp2_with fail
        go_ret
        exact ⟨false, rfl, ⟨(fun h => by cases h), fun h => absurd h HA.out⟩, hb1⟩
    · have HA : Hid (¬ acc 0 n one two ss) := fun h => hz (by rw [← HL.out, ((accept_zero nd ed).1 h).1]; rfl)
      have hne : ((l : Int) == 0) = false := by simpa using hz
      go_enter Tryd.func23, Tryd.ntmps23
      go_wp2_with fail
      go_ret
      exact ⟨false, rfl, ⟨(fun h => by cases h), fun h => absurd h HA.out⟩, Below.refl _ _⟩
  have hne : ((m : Int) == 0) = false := by simpa using h0
  have HAP := Lib.hid (accept_pos nd ed (n := n) (one := one) (two := two) (p := ss) h0)
  by_cases hmn : m = n
  · subst hmn
    have HRA := Lib.hid (roots_true nd m one ss)
    by_cases hz : l = 0
    · subst hz
      by_cases he : one = two
      · have e1 := SealW.beq_yes he
        have HA : Hid (acc m m one two ss) := HAP.out.2 (by rw [HRA.out, if_pos HL.out, he])
        clear he
        go_enter Tryd.func23, Tryd.ntmps23
        go_wp2_with fail
        go_ret
        exact ⟨true, rfl, ⟨fun _ => HA.out, fun _ => rfl⟩, Below.refl _ _⟩
      · have e1 := SealW.beq_no he
        have HA : Hid (¬ acc m m one two ss) := fun h => he (by
          have h2 := HAP.out.1 h
          rw [HRA.out, if_pos HL.out] at h2
          cases h2; rfl)
        clear he
        go_enter Tryd.func23, Tryd.ntmps23
        go_wp2_with fail
        go_ret
        exact ⟨false, rfl, ⟨(fun h => by cases h), fun h => absurd h HA.out⟩, Below.refl _ _⟩
    · have hnl : ((l : Int) == 0) = false := by simpa using hz
      have HA : Hid (¬ acc m m one two ss) := fun h => hz (by
          have h2 := HAP.out.1 h
          rw [HRA.out] at h2
          split at h2
          · rw [← HL.out]; assumption
          · cases h2)
      go_enter Tryd.func23, Tryd.ntmps23
      go_wp2_with fail
      go_ret
      exact ⟨false, rfl, ⟨(fun h => by cases h), fun h => absurd h HA.out⟩, Below.refl _ _⟩
  have hne2 : ((m : Int) == (n : Int)) = false := by simpa using (show ¬ (m : Int) = (n : Int) by omega)
  go_enter Tryd.func23, Tryd.ntmps23
  go_wp2_with fail
  refine (recomputed_any m n one two A l c ss _ hT (by omega) (by omega) hn H4.out HL.out hs hlc hc63 HD.out).mono ?_
  rintro e w1 ⟨b, rfl, hb, hb1⟩
  have HB : Hid (b = true ↔ acc m n one two ss) := hb.trans HAP.out.symm
  clear hb
  go_wp2_with fail
  go_ret
  exact ⟨b, rfl, HB.out, hb1⟩
theorem Check_arg (m n : Int) (one two : ByteArray) (A : Option Addr) (l c : Nat) (w : World) (h : ¬ fair m n one two) :
    Calls Tryd.prog 14 #[.int .i64 m, .int .i64 n, .string one, .string two, .slice A l c] w fun e w' => e = .returned (.int .i64 1) ∧ Below w.heap.size w w' := by
  by_cases h1 : 0 ≤ m
  · have k1 : ¬ m < 0 := by omega
    by_cases h2 : m ≤ n
    · have k2 : ¬ n < m := by omega
      by_cases h3 : n ≤ 1099511627776
      · have k3 : ¬ n > 1099511627776 := by omega
        by_cases h4 : one.size = 32
        · have h5 : ¬ two.size = 32 := fun h5 => h ⟨h1, h2, h3, h4, h5⟩
          have e4 : (one.size : Int) = 32 := by omega
          have e5 : ¬ (two.size : Int) = 32 := by omega
          clear h h4 h5
          go_enter Tryd.func14, Tryd.ntmps14
          go_wp2_with fail
          go_ret
          exact ⟨rfl, Below.refl _ _⟩
        · have e4 : ¬ (one.size : Int) = 32 := by omega
          clear h h4
          go_enter Tryd.func14, Tryd.ntmps14
          go_wp2_with fail
          go_ret
          exact ⟨rfl, Below.refl _ _⟩
      · have k3 : n > 1099511627776 := by omega
        clear h
        go_enter Tryd.func14, Tryd.ntmps14
        go_wp2_with fail
        go_ret
        exact ⟨rfl, Below.refl _ _⟩
    · have k2 : n < m := by omega
      clear h
      go_enter Tryd.func14, Tryd.ntmps14
      go_wp2_with fail
      go_ret
      exact ⟨rfl, Below.refl _ _⟩
  · have k1 : m < 0 := by omega
    clear h
    go_enter Tryd.func14, Tryd.ntmps14
    go_wp2_with fail
    go_ret
    exact ⟨rfl, Below.refl _ _⟩
theorem Check_yes (m n : Nat) (one two : ByteArray) (A : Option Addr) (l c : Nat) (ss : List ByteArray) (w : World) (hT : Tab w) (h2 : m ≤ n) (hn : n ≤ 1099511627776) (h4 : one.size = 32) (h5 : two.size = 32) (hl : ss.length = l) (hs : Sl w A (scells ss)) (hlc : l ≤ c) (hc63 : c ≤ 9223372036854775807)
    (hd : Digs ss) (ha : acc m n one two ss) :
    Calls Tryd.prog 14 #[.int .i64 (m : Int), .int .i64 (n : Int), .string one, .string two, .slice A l c] w fun e w' => e = .returned (.int .i64 0) ∧ Below w.heap.size w w' := by
  have k1 : ¬ (m : Int) < 0 := by omega
  have k2 : ¬ (n : Int) < (m : Int) := by omega
  have k3 : ¬ (n : Int) > 1099511627776 := by omega
  have e4 : (one.size : Int) = 32 := by omega
  have e5 : (two.size : Int) = 32 := by omega
  have HL := Lib.hid hl
  have HD := Lib.hid hd
  have HDY : Hid (decide (Digs ss) = true) := decide_eq_true hd
  have HA := Lib.hid ha
  have H4 := Lib.hid h4
  clear hl hd ha h4 h5
  go_enter Tryd.func14, Tryd.ntmps14
  go_wp2_with fail
  refine (cdigests_any A l c ss _ HL.out hs (by omega)).mono ?_
  rintro e w1 ⟨rfl, rfl⟩
  rw [HDY.out]
  go_wp2_with fail
  refine (accepted_any m n one two A l c ss _ hT h2 hn H4.out HL.out hs hlc hc63 HD.out).mono ?_
  rintro e w1 ⟨b, rfl, hb, hb1⟩
  have hbt : b = true := hb.2 HA.out
  subst hbt
  clear hb
  go_wp2_with fail
  go_ret
  exact ⟨rfl, hb1⟩
theorem Check_no (m n : Nat) (one two : ByteArray) (A : Option Addr) (l c : Nat) (ss : List ByteArray) (w : World) (hT : Tab w) (h2 : m ≤ n) (hn : n ≤ 1099511627776) (h4 : one.size = 32) (h5 : two.size = 32) (hl : ss.length = l) (hs : Sl w A (scells ss)) (hlc : l ≤ c) (hc63 : c ≤ 9223372036854775807)
    (h : ¬ (Digs ss ∧ acc m n one two ss)) :
    Calls Tryd.prog 14 #[.int .i64 (m : Int), .int .i64 (n : Int), .string one, .string two, .slice A l c] w fun e w' => e = .returned (.int .i64 6) ∧ Below w.heap.size w w' := by
  have k1 : ¬ (m : Int) < 0 := by omega
  have k2 : ¬ (n : Int) < (m : Int) := by omega
  have k3 : ¬ (n : Int) > 1099511627776 := by omega
  have e4 : (one.size : Int) = 32 := by omega
  have e5 : (two.size : Int) = 32 := by omega
  have HL := Lib.hid hl
  have H4 := Lib.hid h4
  by_cases hd : Digs ss
  · have HD := Lib.hid hd
    have HDY : Hid (decide (Digs ss) = true) := decide_eq_true hd
    have HA : Hid (¬ acc m n one two ss) := fun ha => h ⟨hd, ha⟩
    clear hl hd h h4 h5
    go_enter Tryd.func14, Tryd.ntmps14
    go_wp2_with fail
    refine (cdigests_any A l c ss _ HL.out hs (by omega)).mono ?_
    rintro e w1 ⟨rfl, rfl⟩
    rw [HDY.out]
    go_wp2_with fail
    refine (accepted_any m n one two A l c ss _ hT h2 hn H4.out HL.out hs hlc hc63 HD.out).mono ?_
    rintro e w1 ⟨b, rfl, hb, hb1⟩
    have hbt : b = false := by
      cases b with
      | false => rfl
      | true => exact absurd (hb.1 rfl) HA.out
    subst hbt
    clear hb
    go_wp2_with fail
    go_ret
    exact ⟨rfl, hb1⟩
  · have HDN : Hid (decide (Digs ss) = false) := decide_eq_false hd
    clear hl hd h h4 h5
    go_enter Tryd.func14, Tryd.ntmps14
    go_wp2_with fail
    refine (cdigests_any A l c ss _ HL.out hs (by omega)).mono ?_
    rintro e w1 ⟨rfl, rfl⟩
    rw [HDN.out]
    go_wp2_with fail
    go_ret
    exact ⟨rfl, Below.refl _ _⟩
end Go.Proofs.YtldghdbbooopdaaDoor.CoW

/- cons: root. -/
namespace Go.Proofs.YtldghdbbooopdaaDoor.CoW
open Go.RowKit TreeW TrW
open ShaW Sha
theorem croot_any (A : Option Addr) (l c : Nat) (ss : List ByteArray) (w : World) (hT : Tab w) (hl : ss.length = l) (hs : Sl w A (scells ss)) (hlc : l ≤ c) (hl40 : l ≤ 1099511627776) (hd : Digs ss) :
    Calls Tryd.prog 29 #[.slice A l c] w fun e w' => e = .returned (.string (rt ss)) ∧ Below w.heap.size w w' := by
  have HL := Lib.hid hl
  have HD := Lib.hid hd
  clear hl hd
  go_enter Tryd.func29, Tryd.ntmps29
  go_wp2_with fail
  refine (Root_ok A l c ss _ hT HL.out hs hlc hl40 HD.out).mono ?_
  rintro e w1 ⟨rfl, hb1⟩
  go_wp2_with fail
  go_ret
  exact ⟨rfl, hb1⟩
end Go.Proofs.YtldghdbbooopdaaDoor.CoW

/- rubrickref07: part, Prove. -/
namespace Go.Proofs.YtldghdbbooopdaaDoor.CoW
open Go.RowKit TreeW ConsW TrW
open ShaW Sha
/-- Of which lists a proof is, in the words of this program's digests. -/
def pt (ss : List ByteArray) (m : Nat) (wh : Bool) : List ByteArray := ConsW.part nd ed ss m wh
theorem pt_all (ss : List ByteArray) (wh : Bool) : pt ss ss.length wh = if wh then [] else [rt ss] := part_all nd ed ss wh
theorem own_one (w : World) (base : Nat) (s : ByteArray) (hb : base ≤ w.heap.size) : OwS base (w.alloc (.cells #[.string s] 9)) (.slice (some ⟨w.heap.size, 0, none⟩) 1 1) [s] :=
  by
    have := World.ownsRow_lit (base := base) (e := 9) (size := 1) w #[.string s] 1 hb (by simp [maxLen]) (by simp)
    unfold OwS
    simpa [scells] using this
set_option maxRecDepth 1000000 in
set_option maxHeartbeats 2000000 in
theorem refPart_any : ∀ (f : Nat) (A : Option Addr) (l c : Nat) (ss : List ByteArray) (m : Nat) (wh : Bool) (_hf : l ≤ f) (w : World) (_hl : ss.length = l) (_hs : Sl w A (scells ss)) (_hd : Digs ss) (_h1 : 1 ≤ m) (_h2 : m ≤ l) (_hlc : l ≤ c) (_hl40 : l ≤ 1099511627776),
    Calls Tryd.prog 22 #[.slice A l c, .int .i64 (m : Int), .bool wh] w fun e w' => ∃ v, e = .returned v ∧ OwS w.heap.size w' v (pt ss m wh) ∧ Below w.heap.size w w' := by
  intro f
  induction f with
  | zero => intro A l c ss m wh hf w hl hs hd h1 h2; omega
  | succ f ih =>
    intro A l c ss m wh hf w hl hs hd h1 h2 hlc hl40
    by_cases hml : m = l
    · have HPA : Hid (pt ss m wh = if wh then [] else [rt ss]) := by show _ = _; rw [hml, ← hl]; exact pt_all ss wh
      have HL := Lib.hid hl
      have HD := Lib.hid hd
      subst hml
      clear hl hd ih
      cases wh with
      | true =>
        go_enter Tryd.func22, Tryd.ntmps22
        go_wp2_with fail
        go_ret
        exact ⟨_, rfl, by rw [HPA.out]; exact OwS.nil _ _, Below.refl _ _⟩
      | false =>
        go_enter Tryd.func22, Tryd.ntmps22
        go_wp2_with fail
        refine (refRoot_any m A m c ss (Nat.le_refl _) _ HL.out hs HD.out hlc hl40).mono ?_
        rintro e w1 ⟨rfl, hb1⟩
        have own1 := own_one w1 w.heap.size (rt ss) hb1.size
        have b1 := hb1.alloc hb1.size (.cells #[.string (rt ss)] 9)
        go_wp2_with fail
        go_ret
        exact ⟨_, rfl, by rw [HPA.out]; exact own1, b1⟩
    obtain ⟨k, q, c2, A2, hk, k1, kl, kq, q1, qc, cc, tk, dq, sP, sQ, hto, hfr⟩ := halves (c := c) hl hs (by omega) hlc
    have HK := Lib.hid hk
    have HP := Lib.hid tk
    have HQ := Lib.hid dq
    have HTO := Lib.hid hto
    have HFR := Lib.hid hfr
    have HD := Lib.hid hd
    have b0 : Below w.heap.size w w.drew := (Below.refl _ _).drew
    have hne : ((m : Int) == (l : Int)) = false := by simpa using (show ¬ (m : Int) = (l : Int) by omega)
    by_cases hmk : m ≤ k
    · have HPA : Hid (pt ss m wh = pt (ss.take k) m wh ++ [rt (ss.drop k)]) := part_left nd ed (by rw [hl]; exact hk) h1 (by omega) hmk
      have k5 : (m : Int) ≤ (k : Int) := by omega
      clear hl hs hd hk tk dq hto hfr
      go_enter Tryd.func22, Tryd.ntmps22
      go_wp2_with fail
      refine (refSplit_in l _ (by omega) hl40).mono ?_
      rintro e w1 ⟨rfl, rfl⟩
      rw [← HK.out]
      go_wp2_with fail
      refine regB_begin (w.heap.size) (by kernel_rfl) ?_
      change wpAnyH _ _ _ _ _ 13 #[false, false, false, false, false, false, false, false, false, false, false, false, false] _ _
      refine regB_take (i := 0) (d := some 22) (v := (.slice A l c)) rfl rfl (by kernel_rfl) (by kernel_rfl) (by kernel_rfl) (fun _ _ _ h => h) (by rfl) (by intro w' hSw; go_simp) ?_
      try simp only [Act.put, List.setIfInBounds_toArray, List.set_cons_zero, List.set_cons_succ]
      refine regB_take (i := 1) (d := some 23) (v := (.int .i64 (k : Int))) rfl rfl (by kernel_rfl) (by kernel_rfl) (by kernel_rfl) (fun _ _ _ h => h) (by rfl) (by intro w' hSw; go_simp) ?_
      try simp only [Act.put, List.setIfInBounds_toArray, List.set_cons_zero, List.set_cons_succ]
      refine regB_take (i := 2) (d := some 24) (v := (.slice A k c)) rfl rfl (by kernel_rfl) (by kernel_rfl) (by kernel_rfl) (fun _ _ _ h => h) (by rfl) (by intro w' hSw; have h9 := HTO.out w'; go_simp) ?_
      try simp only [Act.put, List.setIfInBounds_toArray, List.set_cons_zero, List.set_cons_succ]
      refine regB_take (i := 3) (d := some 25) (v := (.int .i64 (m : Int))) rfl rfl (by kernel_rfl) (by kernel_rfl) (by kernel_rfl) (fun _ _ _ h => h) (by rfl) (by intro w' hSw; go_simp) ?_
      try simp only [Act.put, List.setIfInBounds_toArray, List.set_cons_zero, List.set_cons_succ]
      refine regB_take (i := 4) (d := some 26) (v := (.bool wh)) rfl rfl (by kernel_rfl) (by kernel_rfl) (by kernel_rfl) (fun _ _ _ h => h) (by rfl) (by intro w' hSw; go_simp) ?_
      try simp only [Act.put, List.setIfInBounds_toArray, List.set_cons_zero, List.set_cons_succ]
      refine regB_take (i := 6) (d := some 28) (v := (.slice A l c)) rfl rfl (by kernel_rfl) (by kernel_rfl) (by kernel_rfl) (fun _ _ _ h => h) (by rfl) (by intro w' hSw; go_simp) ?_
      try simp only [Act.put, List.setIfInBounds_toArray, List.set_cons_zero, List.set_cons_succ]
      refine regB_take (i := 7) (d := some 29) (v := (.int .i64 (k : Int))) rfl rfl (by kernel_rfl) (by kernel_rfl) (by kernel_rfl) (fun _ _ _ h => h) (by rfl) (by intro w' hSw; go_simp) ?_
      try simp only [Act.put, List.setIfInBounds_toArray, List.set_cons_zero, List.set_cons_succ]
      refine regB_take (i := 8) (d := some 30) (v := (.slice A2 q c2)) rfl rfl (by kernel_rfl) (by kernel_rfl) (by kernel_rfl) (fun _ _ _ h => h) (by rfl) (by intro w' hSw; have h9 := HFR.out w'; go_simp) ?_
      try simp only [Act.put, List.setIfInBounds_toArray, List.set_cons_zero, List.set_cons_succ]
      refine regB_call (i := 5) rfl (by kernel_rfl) (by rfl) fun K hK => ?_
      go_simp
      refine (ih A k c (ss.take k) m wh (by omega) _ HP.out (sP.below b0) (HD.out.take k) (by omega) (by omega) (by omega) (by omega)).mono ?_
      rintro e w2 ⟨v2, rfl, hown2, hb2⟩
      have hown2 := hown2.base b0.size
      have b2 := b0.trans (hb2.mono b0.size)
      refine hK.out _ _ (hb2.mono b0.size) ?_
      clear hK K
      try simp only [List.setIfInBounds_toArray, List.set_cons_zero, List.set_cons_succ]
      refine regB_call (i := 9) rfl (by kernel_rfl) (by rfl) fun K hK => ?_
      go_simp
      refine (refRoot_any l A2 q c2 (ss.drop k) (by omega) _ HQ.out (sQ.below b2) (HD.out.drop k) (by omega) (by omega)).mono ?_
      rintro e w3 ⟨rfl, hb3⟩
      have b3 := b2.trans (hb3.mono b2.size)
      have hown3 := hown2.below hb3
      clear hown2
      refine hK.out _ _ (hb3.mono b2.size) ?_
      clear hK K
      try simp only [List.setIfInBounds_toArray, List.set_cons_zero, List.set_cons_succ]
      refine regB_call (i := 10) rfl (by kernel_rfl) (by rfl) fun K hK => ?_
      go_simp
      have b4 := b3.alloc b3.size (.cells #[.string (rt (ss.drop k))] 9)
      refine hK.out _ _ ((Below.refl _ _).alloc b3.size _) ?_
      clear hK K
      try simp only [List.setIfInBounds_toArray, List.set_cons_zero, List.set_cons_succ]
      refine regB_call (i := 11) rfl (by kernel_rfl) (by rfl) fun K hK => ?_
      obtain ⟨P0, hP0⟩ : ∃ P0, P0 = CoW.pt (ss.take k) m wh := ⟨_, rfl⟩
      rw [← hP0] at hown3
      obtain ⟨p, hp⟩ : ∃ p, p = P0.length := ⟨_, rfl⟩
      have hp40 : p ≤ l := by rw [hp, hP0]; exact Nat.le_trans (part_le nd ed l (ss.take k) m wh (by rw [HP.out]; omega) (by omega) (by rw [HP.out]; omega)) (by rw [HP.out]; omega)
      have hown4 : w3.ownsRow w.heap.size 9 1 v2 p (scells P0) := by rw [hp]; exact hown3
      refine oper_app (some 33) rfl (.tmp 27) (.tmp 32) 22 rfl strsTy w.heap.size v2 p (scells P0) rfl (hown4.alloc _) (some ⟨w3.heap.size, 0, none⟩) 1 1 (scells [(rt (ss.drop k))]) rfl rfl (new_str w3 _) (scells_one _) (by omega) b4.size ?_
      intro v5 w5 hown5 hgr5 hbl5
      have b5 := below_app b4 hgr5 (hown4.alloc _) (Nat.le_refl _) b4.size
      try simp only [Act.put]
      refine hK.out _ _ (below_app (Below.refl _ _) hgr5 (hown4.alloc _) (Nat.le_refl _) b4.size) ?_
      clear hK K
      try simp only [List.setIfInBounds_toArray, List.set_cons_zero, List.set_cons_succ]
      refine regB_take (i := 12) (d := some 6) (v := v5) rfl rfl (by kernel_rfl) (by kernel_rfl) (by kernel_rfl) (fun _ _ _ h => h) (by rfl) (by intro w' hSw; go_simp) ?_
      try simp only [Act.put, List.setIfInBounds_toArray, List.set_cons_zero, List.set_cons_succ]
      refine wpAnyH_done (by kernel_rfl) ?_ _
      have hown6 := snoc_ownS hp hown5
      clear hown3 hown4 hown5 hgr5 hbl5 b4 b3 b2 hb2 hb3 b0 hp hp40
      go_wp2_with fail
      go_ret
      refine ⟨v5, rfl, ?_, b5⟩
      rw [HPA.out, ← hP0]; exact hown6

    · have hPA : pt ss m wh = pt (ss.drop k) (m - k) false ++ [rt (ss.take k)] := part_right nd ed (by rw [hl]; exact hk) h1 (by omega) hmk
      obtain ⟨r, hr⟩ : ∃ r, m - k = r := ⟨_, rfl⟩
      rw [hr] at hPA
      have HPA := Lib.hid hPA
      have k6 : (m : Int) - (k : Int) = (r : Int) := by omega
      have k7 : IntKind.i64.wrap (r : Int) = (r : Int) := IntWalk.i64_in _ (by omega)
      have k5 : ¬ (m : Int) ≤ (k : Int) := by omega
      clear hl hs hd hk tk dq hto hfr hPA
      go_enter Tryd.func22, Tryd.ntmps22
      go_wp2_with fail
      refine (refSplit_in l _ (by omega) hl40).mono ?_
      rintro e w1 ⟨rfl, rfl⟩
      rw [← HK.out]
      go_wp2_with fail
      refine regB_begin (w.heap.size) (by kernel_rfl) ?_
      change wpAnyH _ _ _ _ _ 14 #[false, false, false, false, false, false, false, false, false, false, false, false, false, false] _ _
      refine regB_take (i := 0) (d := some 34) (v := (.slice A l c)) rfl rfl (by kernel_rfl) (by kernel_rfl) (by kernel_rfl) (fun _ _ _ h => h) (by rfl) (by intro w' hSw; go_simp) ?_
      try simp only [Act.put, List.setIfInBounds_toArray, List.set_cons_zero, List.set_cons_succ]
      refine regB_take (i := 1) (d := some 35) (v := (.int .i64 (k : Int))) rfl rfl (by kernel_rfl) (by kernel_rfl) (by kernel_rfl) (fun _ _ _ h => h) (by rfl) (by intro w' hSw; go_simp) ?_
      try simp only [Act.put, List.setIfInBounds_toArray, List.set_cons_zero, List.set_cons_succ]
      refine regB_take (i := 2) (d := some 36) (v := (.slice A2 q c2)) rfl rfl (by kernel_rfl) (by kernel_rfl) (by kernel_rfl) (fun _ _ _ h => h) (by rfl) (by intro w' hSw; have h9 := HFR.out w'; go_simp) ?_
      try simp only [Act.put, List.setIfInBounds_toArray, List.set_cons_zero, List.set_cons_succ]
      refine regB_take (i := 3) (d := some 37) (v := (.int .i64 (m : Int))) rfl rfl (by kernel_rfl) (by kernel_rfl) (by kernel_rfl) (fun _ _ _ h => h) (by rfl) (by intro w' hSw; go_simp) ?_
      try simp only [Act.put, List.setIfInBounds_toArray, List.set_cons_zero, List.set_cons_succ]
      refine regB_take (i := 4) (d := some 38) (v := (.int .i64 (k : Int))) rfl rfl (by kernel_rfl) (by kernel_rfl) (by kernel_rfl) (fun _ _ _ h => h) (by rfl) (by intro w' hSw; go_simp) ?_
      try simp only [Act.put, List.setIfInBounds_toArray, List.set_cons_zero, List.set_cons_succ]
      refine regB_take (i := 5) (d := some 39) (v := (.int .i64 (r : Int))) rfl rfl (by kernel_rfl) (by kernel_rfl) (by kernel_rfl) (fun _ _ _ h => h) (by rfl) (by intro w' hSw; go_simp) ?_
      try simp only [Act.put, List.setIfInBounds_toArray, List.set_cons_zero, List.set_cons_succ]
      refine regB_take (i := 7) (d := some 41) (v := (.slice A l c)) rfl rfl (by kernel_rfl) (by kernel_rfl) (by kernel_rfl) (fun _ _ _ h => h) (by rfl) (by intro w' hSw; go_simp) ?_
      try simp only [Act.put, List.setIfInBounds_toArray, List.set_cons_zero, List.set_cons_succ]
      refine regB_take (i := 8) (d := some 42) (v := (.int .i64 (k : Int))) rfl rfl (by kernel_rfl) (by kernel_rfl) (by kernel_rfl) (fun _ _ _ h => h) (by rfl) (by intro w' hSw; go_simp) ?_
      try simp only [Act.put, List.setIfInBounds_toArray, List.set_cons_zero, List.set_cons_succ]
      refine regB_take (i := 9) (d := some 43) (v := (.slice A k c)) rfl rfl (by kernel_rfl) (by kernel_rfl) (by kernel_rfl) (fun _ _ _ h => h) (by rfl) (by intro w' hSw; have h9 := HTO.out w'; go_simp) ?_
      try simp only [Act.put, List.setIfInBounds_toArray, List.set_cons_zero, List.set_cons_succ]
      refine regB_call (i := 6) rfl (by kernel_rfl) (by rfl) fun K hK => ?_
      go_simp
      refine (ih A2 q c2 (ss.drop k) r false (by omega) _ HQ.out (sQ.below b0) (HD.out.drop k) (by omega) (by omega) (by omega) (by omega)).mono ?_
      rintro e w2 ⟨v2, rfl, hown2, hb2⟩
      have hown2 := hown2.base b0.size
      have b2 := b0.trans (hb2.mono b0.size)
      refine hK.out _ _ (hb2.mono b0.size) ?_
      clear hK K
      try simp only [List.setIfInBounds_toArray, List.set_cons_zero, List.set_cons_succ]
      refine regB_call (i := 10) rfl (by kernel_rfl) (by rfl) fun K hK => ?_
      go_simp
      refine (refRoot_any l A k c (ss.take k) (by omega) _ HP.out (sP.below b2) (HD.out.take k) (by omega) (by omega)).mono ?_
      rintro e w3 ⟨rfl, hb3⟩
      have b3 := b2.trans (hb3.mono b2.size)
      have hown3 := hown2.below hb3
      clear hown2
      refine hK.out _ _ (hb3.mono b2.size) ?_
      clear hK K
      try simp only [List.setIfInBounds_toArray, List.set_cons_zero, List.set_cons_succ]
      refine regB_call (i := 11) rfl (by kernel_rfl) (by rfl) fun K hK => ?_
      go_simp
      have b4 := b3.alloc b3.size (.cells #[.string (rt (ss.take k))] 9)
      refine hK.out _ _ ((Below.refl _ _).alloc b3.size _) ?_
      clear hK K
      try simp only [List.setIfInBounds_toArray, List.set_cons_zero, List.set_cons_succ]
      refine regB_call (i := 12) rfl (by kernel_rfl) (by rfl) fun K hK => ?_
      obtain ⟨P0, hP0⟩ : ∃ P0, P0 = CoW.pt (ss.drop k) r false := ⟨_, rfl⟩
      rw [← hP0] at hown3
      obtain ⟨p, hp⟩ : ∃ p, p = P0.length := ⟨_, rfl⟩
      have hp40 : p ≤ l := by rw [hp, hP0]; exact Nat.le_trans (part_le nd ed l (ss.drop k) r false (by rw [HQ.out]; omega) (by omega) (by rw [HQ.out]; omega)) (by rw [HQ.out]; omega)
      have hown4 : w3.ownsRow w.heap.size 9 1 v2 p (scells P0) := by rw [hp]; exact hown3
      refine oper_app (some 46) rfl (.tmp 40) (.tmp 45) 22 rfl strsTy w.heap.size v2 p (scells P0) rfl (hown4.alloc _) (some ⟨w3.heap.size, 0, none⟩) 1 1 (scells [(rt (ss.take k))]) rfl rfl (new_str w3 _) (scells_one _) (by omega) b4.size ?_
      intro v5 w5 hown5 hgr5 hbl5
      have b5 := below_app b4 hgr5 (hown4.alloc _) (Nat.le_refl _) b4.size
      try simp only [Act.put]
      refine hK.out _ _ (below_app (Below.refl _ _) hgr5 (hown4.alloc _) (Nat.le_refl _) b4.size) ?_
      clear hK K
      try simp only [List.setIfInBounds_toArray, List.set_cons_zero, List.set_cons_succ]
      refine regB_take (i := 13) (d := some 6) (v := v5) rfl rfl (by kernel_rfl) (by kernel_rfl) (by kernel_rfl) (fun _ _ _ h => h) (by rfl) (by intro w' hSw; go_simp) ?_
      try simp only [Act.put, List.setIfInBounds_toArray, List.set_cons_zero, List.set_cons_succ]
      refine wpAnyH_done (by kernel_rfl) ?_ _
      have hown6 := snoc_ownS hp hown5
      clear hown3 hown4 hown5 hgr5 hbl5 b4 b3 b2 hb2 hb3 b0 hp hp40
      go_wp2_with fail
      go_ret
      refine ⟨v5, rfl, ?_, b5⟩
      rw [HPA.out, ← hP0]; exact hown6

theorem pt_le (ss : List ByteArray) (m : Nat) (wh : Bool) (h1 : 1 ≤ m) (h2 : m ≤ ss.length) : (pt ss m wh).length ≤ ss.length := part_le nd ed ss.length ss m wh (Nat.le_refl _) h1 h2
/-- The proof. -/
def pv (ss : List ByteArray) (m : Nat) : List ByteArray := ConsW.prove nd ed ss m
theorem pv_le (ss : List ByteArray) (m : Nat) (h : m ≤ ss.length) : (pv ss m).length ≤ ss.length := by
  unfold pv ConsW.prove
  split
  · simp
  · exact pt_le ss m true (by omega) h
set_option maxHeartbeats 1000000 in
theorem refProve_any (A : Option Addr) (l c : Nat) (ss : List ByteArray) (m : Nat) (w : World) (hl : ss.length = l) (hs : Sl w A (scells ss)) (hd : Digs ss) (h2 : m ≤ l) (hlc : l ≤ c) (hl40 : l ≤ 1099511627776) :
    Calls Tryd.prog 13 #[.slice A l c, .int .i64 (m : Int)] w fun e w' => ∃ v, e = .returned v ∧ OwS w.heap.size w' v (pv ss m) ∧ Below w.heap.size w w' := by
  have HL := Lib.hid hl
  have HD := Lib.hid hd
  clear hl hd
  by_cases h0 : m = 0
  · subst h0
    go_enter Tryd.func13, Tryd.ntmps13
    go_wp2_with fail
    go_ret
    exact ⟨_, rfl, OwS.nil _ _, Below.refl _ _⟩
  · have HPV : Hid (pv ss m = pt ss m true) := by show _ = _; unfold pv ConsW.prove; rw [if_neg h0]; rfl
    have hne : ((m : Int) == 0) = false := by simpa using h0
    go_enter Tryd.func13, Tryd.ntmps13
    go_wp2_with fail
    refine (refPart_any l A l c ss m true (Nat.le_refl _) _ HL.out hs HD.out (by omega) h2 hlc hl40).mono ?_
    rintro e w1 ⟨v, rfl, hown, hb1⟩
    go_wp2_with fail
    go_ret
    exact ⟨v, rfl, by rw [HPV.out]; exact hown, hb1⟩
end Go.Proofs.YtldghdbbooopdaaDoor.CoW

/- cons: proof, Prove. -/
namespace Go.Proofs.YtldghdbbooopdaaDoor.CoW
open Go.RowKit TreeW ConsW TrW
open ShaW Sha
set_option maxRecDepth 1000000 in
set_option maxHeartbeats 2000000 in
theorem proof_any : ∀ (f : Nat) (A : Option Addr) (l c : Nat) (ss : List ByteArray) (m : Nat) (pa : Bool) (_hf : l ≤ f) (w : World) (_hT : Tab w) (_hl : ss.length = l) (_hs : Sl w A (scells ss)) (_hd : Digs ss) (_h1 : 1 ≤ m) (_h2 : m ≤ l) (_hlc : l ≤ c) (_hl40 : l ≤ 1099511627776),
    Calls Tryd.prog 21 #[.slice A l c, .int .i64 (m : Int), .bool pa] w fun e w' => ∃ v, e = .returned v ∧ OwS w.heap.size w' v (pt ss m (!pa)) ∧ Below w.heap.size w w' := by
  intro f
  induction f with
  | zero => intro A l c ss m pa hf w hT hl hs hd h1 h2; omega
  | succ f ih =>
    intro A l c ss m pa hf w hT hl hs hd h1 h2 hlc hl40
    by_cases hml : m = l
    · have HPA : Hid (pt ss m (!pa) = if (!pa) then [] else [rt ss]) := by show _ = _; rw [hml, ← hl]; exact pt_all ss (!pa)
      have HL := Lib.hid hl
      have HD := Lib.hid hd
      subst hml
      clear hl hd ih
      cases pa with
      | false =>
        go_enter Tryd.func21, Tryd.ntmps21
        go_wp2_with fail
        go_ret
        exact ⟨_, rfl, by rw [HPA.out]; exact OwS.nil _ _, Below.refl _ _⟩
      | true =>
        go_enter Tryd.func21, Tryd.ntmps21
        go_wp2_with fail
        refine (croot_any A m c ss _ hT HL.out hs hlc hl40 HD.out).mono ?_
        rintro e w1 ⟨rfl, hb1⟩
        have own1 := own_one w1 w.heap.size (rt ss) hb1.size
        have b1 := hb1.alloc hb1.size (.cells #[.string (rt ss)] 9)
        go_wp2_with fail
        go_ret
        exact ⟨_, rfl, by rw [HPA.out]; exact own1, b1⟩
    have HT := Lib.hid (fun W (hb : Below w.heap.size w W) => hT.below hb hT.pos)
    clear hT
    obtain ⟨k, q, c2, A2, hk, k1, kl, kq, q1, qc, cc, tk, dq, sP, sQ, hto, hfr⟩ := halves (c := c) hl hs (by omega) hlc
    have HK := Lib.hid hk
    have HP := Lib.hid tk
    have HQ := Lib.hid dq
    have HTO := Lib.hid hto
    have HFR := Lib.hid hfr
    have HD := Lib.hid hd
    have b0 : Below w.heap.size w w.drew := (Below.refl _ _).drew
    have hne : ((m : Int) == (l : Int)) = false := by simpa using (show ¬ (m : Int) = (l : Int) by omega)
    by_cases hmk : m ≤ k
    · have HPA : Hid (pt ss m (!pa) = pt (ss.take k) m (!pa) ++ [rt (ss.drop k)]) := part_left nd ed (by rw [hl]; exact hk) h1 (by omega) hmk
      have k5 : (m : Int) ≤ (k : Int) := by omega
      clear hl hs hd hk tk dq hto hfr
      go_enter Tryd.func21, Tryd.ntmps21
      go_wp2_with fail
      refine (split_in l _ (by omega) hl40).mono ?_
      rintro e w1 ⟨rfl, rfl⟩
      rw [← HK.out]
      go_wp2_with fail
      refine regB_begin (w.heap.size) (by kernel_rfl) ?_
      change wpAnyH _ _ _ _ _ 13 #[false, false, false, false, false, false, false, false, false, false, false, false, false] _ _
      refine regB_take (i := 0) (d := some 22) (v := (.slice A l c)) rfl rfl (by kernel_rfl) (by kernel_rfl) (by kernel_rfl) (fun _ _ _ h => h) (by rfl) (by intro w' hSw; go_simp) ?_
      try simp only [Act.put, List.setIfInBounds_toArray, List.set_cons_zero, List.set_cons_succ]
      refine regB_take (i := 1) (d := some 23) (v := (.int .i64 (k : Int))) rfl rfl (by kernel_rfl) (by kernel_rfl) (by kernel_rfl) (fun _ _ _ h => h) (by rfl) (by intro w' hSw; go_simp) ?_
      try simp only [Act.put, List.setIfInBounds_toArray, List.set_cons_zero, List.set_cons_succ]
      refine regB_take (i := 2) (d := some 24) (v := (.slice A k c)) rfl rfl (by kernel_rfl) (by kernel_rfl) (by kernel_rfl) (fun _ _ _ h => h) (by rfl) (by intro w' hSw; have h9 := HTO.out w'; go_simp) ?_
      try simp only [Act.put, List.setIfInBounds_toArray, List.set_cons_zero, List.set_cons_succ]
      refine regB_take (i := 3) (d := some 25) (v := (.int .i64 (m : Int))) rfl rfl (by kernel_rfl) (by kernel_rfl) (by kernel_rfl) (fun _ _ _ h => h) (by rfl) (by intro w' hSw; go_simp) ?_
      try simp only [Act.put, List.setIfInBounds_toArray, List.set_cons_zero, List.set_cons_succ]
      refine regB_take (i := 4) (d := some 26) (v := (.bool pa)) rfl rfl (by kernel_rfl) (by kernel_rfl) (by kernel_rfl) (fun _ _ _ h => h) (by rfl) (by intro w' hSw; go_simp) ?_
      try simp only [Act.put, List.setIfInBounds_toArray, List.set_cons_zero, List.set_cons_succ]
      refine regB_take (i := 6) (d := some 28) (v := (.slice A l c)) rfl rfl (by kernel_rfl) (by kernel_rfl) (by kernel_rfl) (fun _ _ _ h => h) (by rfl) (by intro w' hSw; go_simp) ?_
      try simp only [Act.put, List.setIfInBounds_toArray, List.set_cons_zero, List.set_cons_succ]
      refine regB_take (i := 7) (d := some 29) (v := (.int .i64 (k : Int))) rfl rfl (by kernel_rfl) (by kernel_rfl) (by kernel_rfl) (fun _ _ _ h => h) (by rfl) (by intro w' hSw; go_simp) ?_
      try simp only [Act.put, List.setIfInBounds_toArray, List.set_cons_zero, List.set_cons_succ]
      refine regB_take (i := 8) (d := some 30) (v := (.slice A2 q c2)) rfl rfl (by kernel_rfl) (by kernel_rfl) (by kernel_rfl) (fun _ _ _ h => h) (by rfl) (by intro w' hSw; have h9 := HFR.out w'; go_simp) ?_
      try simp only [Act.put, List.setIfInBounds_toArray, List.set_cons_zero, List.set_cons_succ]
      refine regB_call (i := 5) rfl (by kernel_rfl) (by rfl) fun K hK => ?_
      go_simp
      refine (ih A k c (ss.take k) m pa (by omega) _ (HT.out _ b0) HP.out (sP.below b0) (HD.out.take k) (by omega) (by omega) (by omega) (by omega)).mono ?_
      rintro e w2 ⟨v2, rfl, hown2, hb2⟩
      have hown2 := hown2.base b0.size
      have b2 := b0.trans (hb2.mono b0.size)
      refine hK.out _ _ (hb2.mono b0.size) ?_
      clear hK K
      try simp only [List.setIfInBounds_toArray, List.set_cons_zero, List.set_cons_succ]
      refine regB_call (i := 9) rfl (by kernel_rfl) (by rfl) fun K hK => ?_
      go_simp
      refine (croot_any A2 q c2 (ss.drop k) _ (HT.out _ b2) HQ.out (sQ.below b2) (by omega) (by omega) (HD.out.drop k)).mono ?_
      rintro e w3 ⟨rfl, hb3⟩
      have b3 := b2.trans (hb3.mono b2.size)
      have hown3 := hown2.below hb3
      clear hown2
      refine hK.out _ _ (hb3.mono b2.size) ?_
      clear hK K
      try simp only [List.setIfInBounds_toArray, List.set_cons_zero, List.set_cons_succ]
      refine regB_call (i := 10) rfl (by kernel_rfl) (by rfl) fun K hK => ?_
      go_simp
      have b4 := b3.alloc b3.size (.cells #[.string (rt (ss.drop k))] 9)
      refine hK.out _ _ ((Below.refl _ _).alloc b3.size _) ?_
      clear hK K
      try simp only [List.setIfInBounds_toArray, List.set_cons_zero, List.set_cons_succ]
      refine regB_call (i := 11) rfl (by kernel_rfl) (by rfl) fun K hK => ?_
      obtain ⟨P0, hP0⟩ : ∃ P0, P0 = CoW.pt (ss.take k) m (!pa) := ⟨_, rfl⟩
      rw [← hP0] at hown3
      obtain ⟨p, hp⟩ : ∃ p, p = P0.length := ⟨_, rfl⟩
      have hp40 : p ≤ l := by rw [hp, hP0]; exact Nat.le_trans (part_le nd ed l (ss.take k) m (!pa) (by rw [HP.out]; omega) (by omega) (by rw [HP.out]; omega)) (by rw [HP.out]; omega)
      have hown4 : w3.ownsRow w.heap.size 9 1 v2 p (scells P0) := by rw [hp]; exact hown3
      refine oper_app (some 33) rfl (.tmp 27) (.tmp 32) 22 rfl strsTy w.heap.size v2 p (scells P0) rfl (hown4.alloc _) (some ⟨w3.heap.size, 0, none⟩) 1 1 (scells [(rt (ss.drop k))]) rfl rfl (new_str w3 _) (scells_one _) (by omega) b4.size ?_
      intro v5 w5 hown5 hgr5 hbl5
      have b5 := below_app b4 hgr5 (hown4.alloc _) (Nat.le_refl _) b4.size
      try simp only [Act.put]
      refine hK.out _ _ (below_app (Below.refl _ _) hgr5 (hown4.alloc _) (Nat.le_refl _) b4.size) ?_
      clear hK K
      try simp only [List.setIfInBounds_toArray, List.set_cons_zero, List.set_cons_succ]
      refine regB_take (i := 12) (d := some 6) (v := v5) rfl rfl (by kernel_rfl) (by kernel_rfl) (by kernel_rfl) (fun _ _ _ h => h) (by rfl) (by intro w' hSw; go_simp) ?_
      try simp only [Act.put, List.setIfInBounds_toArray, List.set_cons_zero, List.set_cons_succ]
      refine wpAnyH_done (by kernel_rfl) ?_ _
      have hown6 := snoc_ownS hp hown5
      clear hown3 hown4 hown5 hgr5 hbl5 b4 b3 b2 hb2 hb3 b0 hp hp40
      go_wp2_with fail
      go_ret
      refine ⟨v5, rfl, ?_, b5⟩
      rw [HPA.out, ← hP0]; exact hown6

    · have hPA : pt ss m (!pa) = pt (ss.drop k) (m - k) false ++ [rt (ss.take k)] := part_right nd ed (by rw [hl]; exact hk) h1 (by omega) hmk
      obtain ⟨r, hr⟩ : ∃ r, m - k = r := ⟨_, rfl⟩
      rw [hr] at hPA
      have HPA := Lib.hid hPA
      have k6 : (m : Int) - (k : Int) = (r : Int) := by omega
      have k7 : IntKind.i64.wrap (r : Int) = (r : Int) := IntWalk.i64_in _ (by omega)
      have k5 : ¬ (m : Int) ≤ (k : Int) := by omega
      clear hl hs hd hk tk dq hto hfr hPA
      go_enter Tryd.func21, Tryd.ntmps21
      go_wp2_with fail
      refine (split_in l _ (by omega) hl40).mono ?_
      rintro e w1 ⟨rfl, rfl⟩
      rw [← HK.out]
      go_wp2_with fail
      refine regB_begin (w.heap.size) (by kernel_rfl) ?_
      change wpAnyH _ _ _ _ _ 14 #[false, false, false, false, false, false, false, false, false, false, false, false, false, false] _ _
      refine regB_take (i := 0) (d := some 34) (v := (.slice A l c)) rfl rfl (by kernel_rfl) (by kernel_rfl) (by kernel_rfl) (fun _ _ _ h => h) (by rfl) (by intro w' hSw; go_simp) ?_
      try simp only [Act.put, List.setIfInBounds_toArray, List.set_cons_zero, List.set_cons_succ]
      refine regB_take (i := 1) (d := some 35) (v := (.int .i64 (k : Int))) rfl rfl (by kernel_rfl) (by kernel_rfl) (by kernel_rfl) (fun _ _ _ h => h) (by rfl) (by intro w' hSw; go_simp) ?_
      try simp only [Act.put, List.setIfInBounds_toArray, List.set_cons_zero, List.set_cons_succ]
      refine regB_take (i := 2) (d := some 36) (v := (.slice A2 q c2)) rfl rfl (by kernel_rfl) (by kernel_rfl) (by kernel_rfl) (fun _ _ _ h => h) (by rfl) (by intro w' hSw; have h9 := HFR.out w'; go_simp) ?_
      try simp only [Act.put, List.setIfInBounds_toArray, List.set_cons_zero, List.set_cons_succ]
      refine regB_take (i := 3) (d := some 37) (v := (.int .i64 (m : Int))) rfl rfl (by kernel_rfl) (by kernel_rfl) (by kernel_rfl) (fun _ _ _ h => h) (by rfl) (by intro w' hSw; go_simp) ?_
      try simp only [Act.put, List.setIfInBounds_toArray, List.set_cons_zero, List.set_cons_succ]
      refine regB_take (i := 4) (d := some 38) (v := (.int .i64 (k : Int))) rfl rfl (by kernel_rfl) (by kernel_rfl) (by kernel_rfl) (fun _ _ _ h => h) (by rfl) (by intro w' hSw; go_simp) ?_
      try simp only [Act.put, List.setIfInBounds_toArray, List.set_cons_zero, List.set_cons_succ]
      refine regB_take (i := 5) (d := some 39) (v := (.int .i64 (r : Int))) rfl rfl (by kernel_rfl) (by kernel_rfl) (by kernel_rfl) (fun _ _ _ h => h) (by rfl) (by intro w' hSw; go_simp) ?_
      try simp only [Act.put, List.setIfInBounds_toArray, List.set_cons_zero, List.set_cons_succ]
      refine regB_take (i := 7) (d := some 41) (v := (.slice A l c)) rfl rfl (by kernel_rfl) (by kernel_rfl) (by kernel_rfl) (fun _ _ _ h => h) (by rfl) (by intro w' hSw; go_simp) ?_
      try simp only [Act.put, List.setIfInBounds_toArray, List.set_cons_zero, List.set_cons_succ]
      refine regB_take (i := 8) (d := some 42) (v := (.int .i64 (k : Int))) rfl rfl (by kernel_rfl) (by kernel_rfl) (by kernel_rfl) (fun _ _ _ h => h) (by rfl) (by intro w' hSw; go_simp) ?_
      try simp only [Act.put, List.setIfInBounds_toArray, List.set_cons_zero, List.set_cons_succ]
      refine regB_take (i := 9) (d := some 43) (v := (.slice A k c)) rfl rfl (by kernel_rfl) (by kernel_rfl) (by kernel_rfl) (fun _ _ _ h => h) (by rfl) (by intro w' hSw; have h9 := HTO.out w'; go_simp) ?_
      try simp only [Act.put, List.setIfInBounds_toArray, List.set_cons_zero, List.set_cons_succ]
      refine regB_call (i := 6) rfl (by kernel_rfl) (by rfl) fun K hK => ?_
      go_simp
      refine (ih A2 q c2 (ss.drop k) r true (by omega) _ (HT.out _ b0) HQ.out (sQ.below b0) (HD.out.drop k) (by omega) (by omega) (by omega) (by omega)).mono ?_
      rintro e w2 ⟨v2, rfl, hown2, hb2⟩
      have hown2 := hown2.base b0.size
      rw [Bool.not_true] at hown2
      have b2 := b0.trans (hb2.mono b0.size)
      refine hK.out _ _ (hb2.mono b0.size) ?_
      clear hK K
      try simp only [List.setIfInBounds_toArray, List.set_cons_zero, List.set_cons_succ]
      refine regB_call (i := 10) rfl (by kernel_rfl) (by rfl) fun K hK => ?_
      go_simp
      refine (croot_any A k c (ss.take k) _ (HT.out _ b2) HP.out (sP.below b2) (by omega) (by omega) (HD.out.take k)).mono ?_
      rintro e w3 ⟨rfl, hb3⟩
      have b3 := b2.trans (hb3.mono b2.size)
      have hown3 := hown2.below hb3
      clear hown2
      refine hK.out _ _ (hb3.mono b2.size) ?_
      clear hK K
      try simp only [List.setIfInBounds_toArray, List.set_cons_zero, List.set_cons_succ]
      refine regB_call (i := 11) rfl (by kernel_rfl) (by rfl) fun K hK => ?_
      go_simp
      have b4 := b3.alloc b3.size (.cells #[.string (rt (ss.take k))] 9)
      refine hK.out _ _ ((Below.refl _ _).alloc b3.size _) ?_
      clear hK K
      try simp only [List.setIfInBounds_toArray, List.set_cons_zero, List.set_cons_succ]
      refine regB_call (i := 12) rfl (by kernel_rfl) (by rfl) fun K hK => ?_
      obtain ⟨P0, hP0⟩ : ∃ P0, P0 = CoW.pt (ss.drop k) r false := ⟨_, rfl⟩
      rw [← hP0] at hown3
      obtain ⟨p, hp⟩ : ∃ p, p = P0.length := ⟨_, rfl⟩
      have hp40 : p ≤ l := by rw [hp, hP0]; exact Nat.le_trans (part_le nd ed l (ss.drop k) r false (by rw [HQ.out]; omega) (by omega) (by rw [HQ.out]; omega)) (by rw [HQ.out]; omega)
      have hown4 : w3.ownsRow w.heap.size 9 1 v2 p (scells P0) := by rw [hp]; exact hown3
      refine oper_app (some 46) rfl (.tmp 40) (.tmp 45) 22 rfl strsTy w.heap.size v2 p (scells P0) rfl (hown4.alloc _) (some ⟨w3.heap.size, 0, none⟩) 1 1 (scells [(rt (ss.take k))]) rfl rfl (new_str w3 _) (scells_one _) (by omega) b4.size ?_
      intro v5 w5 hown5 hgr5 hbl5
      have b5 := below_app b4 hgr5 (hown4.alloc _) (Nat.le_refl _) b4.size
      try simp only [Act.put]
      refine hK.out _ _ (below_app (Below.refl _ _) hgr5 (hown4.alloc _) (Nat.le_refl _) b4.size) ?_
      clear hK K
      try simp only [List.setIfInBounds_toArray, List.set_cons_zero, List.set_cons_succ]
      refine regB_take (i := 13) (d := some 6) (v := v5) rfl rfl (by kernel_rfl) (by kernel_rfl) (by kernel_rfl) (fun _ _ _ h => h) (by rfl) (by intro w' hSw; go_simp) ?_
      try simp only [Act.put, List.setIfInBounds_toArray, List.set_cons_zero, List.set_cons_succ]
      refine wpAnyH_done (by kernel_rfl) ?_ _
      have hown6 := snoc_ownS hp hown5
      clear hown3 hown4 hown5 hgr5 hbl5 b4 b3 b2 hb2 hb3 b0 hp hp40
      go_wp2_with fail
      go_ret
      refine ⟨v5, rfl, ?_, b5⟩
      rw [HPA.out, ← hP0]; exact hown6

set_option maxHeartbeats 1000000 in
theorem Prove_ok (A : Option Addr) (l c : Nat) (ss : List ByteArray) (m : Nat) (w : World) (hT : Tab w) (hl : ss.length = l) (hs : Sl w A (scells ss)) (hd : Digs ss) (h2 : m ≤ l) (hlc : l ≤ c) (hl40 : l ≤ 1099511627776) :
    Calls Tryd.prog 10 #[.slice A l c, .int .i64 (m : Int)] w fun e w' => ∃ v, e = .returned (.tuple #[v, .int .i64 0]) ∧ OwS w.heap.size w' v (pv ss m) ∧ Below w.heap.size w w' := by
  have HL := Lib.hid hl
  have HD := Lib.hid hd
  have HDY : Hid (decide (Digs ss) = true) := decide_eq_true hd
  have e1 : ¬ (m : Int) < 0 := by omega
  have e2 : ¬ (m : Int) > (l : Int) := by omega
  clear hl hd
  by_cases h0 : m = 0
  · subst h0
    go_enter Tryd.func10, Tryd.ntmps10
    go_wp2_with fail
    refine (cdigests_any A l c ss _ HL.out hs (by omega)).mono ?_
    rintro e w1 ⟨rfl, rfl⟩
    rw [HDY.out]
    go_wp2_with fail
    go_ret2
    exact ⟨_, rfl, OwS.nil _ _, Below.refl _ _⟩
  · have HPV : Hid (pv ss m = pt ss m true) := by show _ = _; unfold pv ConsW.prove; rw [if_neg h0]; rfl
    have hne : ((m : Int) == 0) = false := by simpa using h0
    go_enter Tryd.func10, Tryd.ntmps10
    go_wp2_with fail
    refine (cdigests_any A l c ss _ HL.out hs (by omega)).mono ?_
    rintro e w1 ⟨rfl, rfl⟩
    rw [HDY.out]
    go_wp2_with fail
    refine (proof_any l A l c ss m false (Nat.le_refl _) _ hT HL.out hs HD.out (by omega) h2 hlc hl40).mono ?_
    rintro e w1 ⟨v, rfl, hown, hb1⟩
    go_wp2_with fail
    go_ret2
    exact ⟨v, rfl, by rw [HPV.out]; exact hown, hb1⟩
theorem Prove_bad (A : Option Addr) (l c : Nat) (ss : List ByteArray) (m : Int) (w : World) (hl : ss.length = l) (hs : Sl w A (scells ss)) (_hlc : l ≤ c) (hl40 : l ≤ 1099511627776) (h : ¬ Digs ss ∨ m < 0 ∨ (l : Int) < m) :
    Calls Tryd.prog 10 #[.slice A l c, .int .i64 m] w fun e w' => e = .returned (.tuple #[.slice none 0 0, .int .i64 1]) ∧ Below w.heap.size w w' := by
  have HL := Lib.hid hl
  clear hl
  by_cases hd : Digs ss
  · have HDY : Hid (decide (Digs ss) = true) := decide_eq_true hd
    by_cases h1 : m < 0
    · clear h hd
      go_enter Tryd.func10, Tryd.ntmps10
      go_wp2_with fail
      refine (cdigests_any A l c ss _ HL.out hs (by omega)).mono ?_
      rintro e w1 ⟨rfl, rfl⟩
      rw [HDY.out]
      go_wp2_with fail
      go_ret2
      exact ⟨rfl, Below.refl _ _⟩
    · have h2 : m > (l : Int) := by
        rcases h with h | h | h
        · exact absurd hd h
        · exact absurd h h1
        · exact h
      clear h hd
      go_enter Tryd.func10, Tryd.ntmps10
      go_wp2_with fail
      refine (cdigests_any A l c ss _ HL.out hs (by omega)).mono ?_
      rintro e w1 ⟨rfl, rfl⟩
      rw [HDY.out]
      go_wp2_with fail
      go_ret2
      exact ⟨rfl, Below.refl _ _⟩
  · have HDN : Hid (decide (Digs ss) = false) := decide_eq_false hd
    clear h hd
    go_enter Tryd.func10, Tryd.ntmps10
    go_wp2_with fail
    refine (cdigests_any A l c ss _ HL.out hs (by omega)).mono ?_
    rintro e w1 ⟨rfl, rfl⟩
    rw [HDN.out]
    go_wp2_with fail
    go_ret2
    exact ⟨rfl, Below.refl _ _⟩
end Go.Proofs.YtldghdbbooopdaaDoor.CoW

/- cons: what is asked of the code. -/
namespace Go.Proofs.YtldghdbbooopdaaDoor.CoW
end Go.Proofs.YtldghdbbooopdaaDoor.CoW

/- The sums of the seven leaves of the example, reckoned: the root of all, and of the others behind four, lead elsewhere than to the root of four. -/
namespace Go.Proofs.YtldghdbbooopdaaDoor.CoW
open Go.RowKit TreeW TrW
open ShaW Sha
theorem kl0 : lf [0] = ⟨[150, 162, 150, 210, 36, 242, 133, 198, 123, 238, 147, 195, 15, 138, 48, 145, 87, 240, 218, 163, 93, 197, 184, 126, 65, 11, 120, 99, 10, 9, 207, 199].toArray⟩ := by unfold lf; rw [show sha (0 :: [0]) = [150, 162, 150, 210, 36, 242, 133, 198, 123, 238, 147, 195, 15, 138, 48, 145, 87, 240, 218, 163, 93, 197, 184, 126, 65, 11, 120, 99, 10, 9, 207, 199] by decide +kernel]
theorem kl1 : lf [1] = ⟨[180, 19, 244, 125, 19, 238, 47, 230, 200, 69, 178, 238, 20, 26, 248, 29, 232, 88, 223, 78, 197, 73, 165, 139, 121, 112, 187, 150, 100, 91, 200, 210].toArray⟩ := by unfold lf; rw [show sha (0 :: [1]) = [180, 19, 244, 125, 19, 238, 47, 230, 200, 69, 178, 238, 20, 26, 248, 29, 232, 88, 223, 78, 197, 73, 165, 139, 121, 112, 187, 150, 100, 91, 200, 210] by decide +kernel]
theorem kl2 : lf [2] = ⟨[252, 240, 166, 199, 0, 221, 19, 226, 116, 182, 251, 168, 222, 234, 141, 217, 178, 110, 78, 237, 222, 52, 149, 113, 124, 172, 132, 8, 201, 197, 23, 127].toArray⟩ := by unfold lf; rw [show sha (0 :: [2]) = [252, 240, 166, 199, 0, 221, 19, 226, 116, 182, 251, 168, 222, 234, 141, 217, 178, 110, 78, 237, 222, 52, 149, 113, 124, 172, 132, 8, 201, 197, 23, 127] by decide +kernel]
theorem kl3 : lf [3] = ⟨[88, 60, 125, 251, 123, 48, 85, 217, 148, 101, 84, 64, 50, 165, 113, 225, 10, 19, 75, 27, 111, 118, 148, 34, 187, 183, 31, 215, 250, 22, 122, 93].toArray⟩ := by unfold lf; rw [show sha (0 :: [3]) = [88, 60, 125, 251, 123, 48, 85, 217, 148, 101, 84, 64, 50, 165, 113, 225, 10, 19, 75, 27, 111, 118, 148, 34, 187, 183, 31, 215, 250, 22, 122, 93] by decide +kernel]
theorem kl4 : lf [4] = ⟨[79, 53, 33, 45, 18, 249, 173, 32, 54, 73, 44, 149, 241, 254, 121, 186, 244, 236, 123, 217, 190, 243, 223, 250, 117, 121, 242, 41, 63, 245, 70, 164].toArray⟩ := by unfold lf; rw [show sha (0 :: [4]) = [79, 53, 33, 45, 18, 249, 173, 32, 54, 73, 44, 149, 241, 254, 121, 186, 244, 236, 123, 217, 190, 243, 223, 250, 117, 121, 242, 41, 63, 245, 70, 164] by decide +kernel]
theorem kl5 : lf [5] = ⟨[159, 26, 250, 77, 193, 36, 203, 167, 49, 52, 232, 47, 245, 15, 23, 200, 247, 22, 66, 87, 199, 159, 237, 154, 19, 245, 148, 58, 106, 203, 142, 61].toArray⟩ := by unfold lf; rw [show sha (0 :: [5]) = [159, 26, 250, 77, 193, 36, 203, 167, 49, 52, 232, 47, 245, 15, 23, 200, 247, 22, 66, 87, 199, 159, 237, 154, 19, 245, 148, 58, 106, 203, 142, 61] by decide +kernel]
theorem kl6 : lf [6] = ⟨[64, 216, 129, 39, 212, 211, 26, 56, 145, 244, 21, 152, 238, 237, 65, 23, 78, 91, 200, 155, 30, 185, 187, 214, 106, 140, 191, 192, 153, 86, 163, 253].toArray⟩ := by unfold lf; rw [show sha (0 :: [6]) = [64, 216, 129, 39, 212, 211, 26, 56, 145, 244, 21, 152, 238, 237, 65, 23, 78, 91, 200, 155, 30, 185, 187, 214, 106, 140, 191, 192, 153, 86, 163, 253] by decide +kernel]
theorem kn01 : nd ⟨[150, 162, 150, 210, 36, 242, 133, 198, 123, 238, 147, 195, 15, 138, 48, 145, 87, 240, 218, 163, 93, 197, 184, 126, 65, 11, 120, 99, 10, 9, 207, 199].toArray⟩ ⟨[180, 19, 244, 125, 19, 238, 47, 230, 200, 69, 178, 238, 20, 26, 248, 29, 232, 88, 223, 78, 197, 73, 165, 139, 121, 112, 187, 150, 100, 91, 200, 210].toArray⟩ = ⟨[162, 11, 249, 167, 204, 45, 200, 160, 143, 95, 65, 90, 113, 177, 159, 106, 196, 39, 186, 181, 77, 36, 238, 200, 104, 181, 211, 16, 52, 73, 149, 58].toArray⟩ := by
  unfold nd; rw [show sha (1 :: ((⟨[150, 162, 150, 210, 36, 242, 133, 198, 123, 238, 147, 195, 15, 138, 48, 145, 87, 240, 218, 163, 93, 197, 184, 126, 65, 11, 120, 99, 10, 9, 207, 199].toArray⟩ : ByteArray).data.toList ++ (⟨[180, 19, 244, 125, 19, 238, 47, 230, 200, 69, 178, 238, 20, 26, 248, 29, 232, 88, 223, 78, 197, 73, 165, 139, 121, 112, 187, 150, 100, 91, 200, 210].toArray⟩ : ByteArray).data.toList)) = [162, 11, 249, 167, 204, 45, 200, 160, 143, 95, 65, 90, 113, 177, 159, 106, 196, 39, 186, 181, 77, 36, 238, 200, 104, 181, 211, 16, 52, 73, 149, 58] by decide +kernel]
theorem kn23 : nd ⟨[252, 240, 166, 199, 0, 221, 19, 226, 116, 182, 251, 168, 222, 234, 141, 217, 178, 110, 78, 237, 222, 52, 149, 113, 124, 172, 132, 8, 201, 197, 23, 127].toArray⟩ ⟨[88, 60, 125, 251, 123, 48, 85, 217, 148, 101, 84, 64, 50, 165, 113, 225, 10, 19, 75, 27, 111, 118, 148, 34, 187, 183, 31, 215, 250, 22, 122, 93].toArray⟩ = ⟨[82, 197, 107, 71, 62, 82, 70, 147, 62, 120, 82, 152, 156, 217, 254, 186, 59, 56, 240, 120, 116, 43, 147, 175, 255, 30, 101, 237, 70, 121, 120, 37].toArray⟩ := by
  unfold nd; rw [show sha (1 :: ((⟨[252, 240, 166, 199, 0, 221, 19, 226, 116, 182, 251, 168, 222, 234, 141, 217, 178, 110, 78, 237, 222, 52, 149, 113, 124, 172, 132, 8, 201, 197, 23, 127].toArray⟩ : ByteArray).data.toList ++ (⟨[88, 60, 125, 251, 123, 48, 85, 217, 148, 101, 84, 64, 50, 165, 113, 225, 10, 19, 75, 27, 111, 118, 148, 34, 187, 183, 31, 215, 250, 22, 122, 93].toArray⟩ : ByteArray).data.toList)) = [82, 197, 107, 71, 62, 82, 70, 147, 62, 120, 82, 152, 156, 217, 254, 186, 59, 56, 240, 120, 116, 43, 147, 175, 255, 30, 101, 237, 70, 121, 120, 37] by decide +kernel]
theorem kn03 : nd ⟨[162, 11, 249, 167, 204, 45, 200, 160, 143, 95, 65, 90, 113, 177, 159, 106, 196, 39, 186, 181, 77, 36, 238, 200, 104, 181, 211, 16, 52, 73, 149, 58].toArray⟩ ⟨[82, 197, 107, 71, 62, 82, 70, 147, 62, 120, 82, 152, 156, 217, 254, 186, 59, 56, 240, 120, 116, 43, 147, 175, 255, 30, 101, 237, 70, 121, 120, 37].toArray⟩ = ⟨[155, 205, 81, 36, 10, 244, 0, 81, 104, 240, 51, 18, 27, 168, 91, 229, 166, 237, 79, 14, 106, 95, 172, 38, 32, 102, 114, 155, 143, 191, 222, 203].toArray⟩ := by
  unfold nd; rw [show sha (1 :: ((⟨[162, 11, 249, 167, 204, 45, 200, 160, 143, 95, 65, 90, 113, 177, 159, 106, 196, 39, 186, 181, 77, 36, 238, 200, 104, 181, 211, 16, 52, 73, 149, 58].toArray⟩ : ByteArray).data.toList ++ (⟨[82, 197, 107, 71, 62, 82, 70, 147, 62, 120, 82, 152, 156, 217, 254, 186, 59, 56, 240, 120, 116, 43, 147, 175, 255, 30, 101, 237, 70, 121, 120, 37].toArray⟩ : ByteArray).data.toList)) = [155, 205, 81, 36, 10, 244, 0, 81, 104, 240, 51, 18, 27, 168, 91, 229, 166, 237, 79, 14, 106, 95, 172, 38, 32, 102, 114, 155, 143, 191, 222, 203] by decide +kernel]
theorem kn45 : nd ⟨[79, 53, 33, 45, 18, 249, 173, 32, 54, 73, 44, 149, 241, 254, 121, 186, 244, 236, 123, 217, 190, 243, 223, 250, 117, 121, 242, 41, 63, 245, 70, 164].toArray⟩ ⟨[159, 26, 250, 77, 193, 36, 203, 167, 49, 52, 232, 47, 245, 15, 23, 200, 247, 22, 66, 87, 199, 159, 237, 154, 19, 245, 148, 58, 106, 203, 142, 61].toArray⟩ = ⟨[75, 140, 18, 158, 209, 76, 206, 44, 8, 207, 198, 118, 109, 183, 248, 205, 177, 51, 181, 246, 152, 184, 222, 61, 88, 144, 234, 127, 247, 240, 168, 209].toArray⟩ := by
  unfold nd; rw [show sha (1 :: ((⟨[79, 53, 33, 45, 18, 249, 173, 32, 54, 73, 44, 149, 241, 254, 121, 186, 244, 236, 123, 217, 190, 243, 223, 250, 117, 121, 242, 41, 63, 245, 70, 164].toArray⟩ : ByteArray).data.toList ++ (⟨[159, 26, 250, 77, 193, 36, 203, 167, 49, 52, 232, 47, 245, 15, 23, 200, 247, 22, 66, 87, 199, 159, 237, 154, 19, 245, 148, 58, 106, 203, 142, 61].toArray⟩ : ByteArray).data.toList)) = [75, 140, 18, 158, 209, 76, 206, 44, 8, 207, 198, 118, 109, 183, 248, 205, 177, 51, 181, 246, 152, 184, 222, 61, 88, 144, 234, 127, 247, 240, 168, 209] by decide +kernel]
theorem kn46 : nd ⟨[75, 140, 18, 158, 209, 76, 206, 44, 8, 207, 198, 118, 109, 183, 248, 205, 177, 51, 181, 246, 152, 184, 222, 61, 88, 144, 234, 127, 247, 240, 168, 209].toArray⟩ ⟨[64, 216, 129, 39, 212, 211, 26, 56, 145, 244, 21, 152, 238, 237, 65, 23, 78, 91, 200, 155, 30, 185, 187, 214, 106, 140, 191, 192, 153, 86, 163, 253].toArray⟩ = ⟨[137, 201, 41, 131, 78, 209, 69, 155, 7, 246, 91, 94, 26, 33, 67, 168, 207, 93, 142, 253, 243, 15, 73, 255, 255, 163, 40, 187, 29, 145, 51, 187].toArray⟩ := by
  unfold nd; rw [show sha (1 :: ((⟨[75, 140, 18, 158, 209, 76, 206, 44, 8, 207, 198, 118, 109, 183, 248, 205, 177, 51, 181, 246, 152, 184, 222, 61, 88, 144, 234, 127, 247, 240, 168, 209].toArray⟩ : ByteArray).data.toList ++ (⟨[64, 216, 129, 39, 212, 211, 26, 56, 145, 244, 21, 152, 238, 237, 65, 23, 78, 91, 200, 155, 30, 185, 187, 214, 106, 140, 191, 192, 153, 86, 163, 253].toArray⟩ : ByteArray).data.toList)) = [137, 201, 41, 131, 78, 209, 69, 155, 7, 246, 91, 94, 26, 33, 67, 168, 207, 93, 142, 253, 243, 15, 73, 255, 255, 163, 40, 187, 29, 145, 51, 187] by decide +kernel]
theorem kn06 : nd ⟨[155, 205, 81, 36, 10, 244, 0, 81, 104, 240, 51, 18, 27, 168, 91, 229, 166, 237, 79, 14, 106, 95, 172, 38, 32, 102, 114, 155, 143, 191, 222, 203].toArray⟩ ⟨[137, 201, 41, 131, 78, 209, 69, 155, 7, 246, 91, 94, 26, 33, 67, 168, 207, 93, 142, 253, 243, 15, 73, 255, 255, 163, 40, 187, 29, 145, 51, 187].toArray⟩ = ⟨[53, 96, 25, 24, 3, 2, 132, 68, 178, 50, 1, 138, 192, 71, 253, 181, 97, 192, 156, 35, 167, 166, 135, 108, 133, 224, 139, 94, 77, 72, 233, 243].toArray⟩ := by
  unfold nd; rw [show sha (1 :: ((⟨[155, 205, 81, 36, 10, 244, 0, 81, 104, 240, 51, 18, 27, 168, 91, 229, 166, 237, 79, 14, 106, 95, 172, 38, 32, 102, 114, 155, 143, 191, 222, 203].toArray⟩ : ByteArray).data.toList ++ (⟨[137, 201, 41, 131, 78, 209, 69, 155, 7, 246, 91, 94, 26, 33, 67, 168, 207, 93, 142, 253, 243, 15, 73, 255, 255, 163, 40, 187, 29, 145, 51, 187].toArray⟩ : ByteArray).data.toList)) = [53, 96, 25, 24, 3, 2, 132, 68, 178, 50, 1, 138, 192, 71, 253, 181, 97, 192, 156, 35, 167, 166, 135, 108, 133, 224, 139, 94, 77, 72, 233, 243] by decide +kernel]
theorem knx : nd ⟨[53, 96, 25, 24, 3, 2, 132, 68, 178, 50, 1, 138, 192, 71, 253, 181, 97, 192, 156, 35, 167, 166, 135, 108, 133, 224, 139, 94, 77, 72, 233, 243].toArray⟩ ⟨[137, 201, 41, 131, 78, 209, 69, 155, 7, 246, 91, 94, 26, 33, 67, 168, 207, 93, 142, 253, 243, 15, 73, 255, 255, 163, 40, 187, 29, 145, 51, 187].toArray⟩ = ⟨[163, 115, 114, 220, 137, 214, 139, 152, 91, 253, 19, 101, 253, 21, 99, 75, 253, 249, 65, 93, 226, 116, 14, 10, 241, 231, 213, 101, 72, 7, 41, 245].toArray⟩ := by
  unfold nd; rw [show sha (1 :: ((⟨[53, 96, 25, 24, 3, 2, 132, 68, 178, 50, 1, 138, 192, 71, 253, 181, 97, 192, 156, 35, 167, 166, 135, 108, 133, 224, 139, 94, 77, 72, 233, 243].toArray⟩ : ByteArray).data.toList ++ (⟨[137, 201, 41, 131, 78, 209, 69, 155, 7, 246, 91, 94, 26, 33, 67, 168, 207, 93, 142, 253, 243, 15, 73, 255, 255, 163, 40, 187, 29, 145, 51, 187].toArray⟩ : ByteArray).data.toList)) = [163, 115, 114, 220, 137, 214, 139, 152, 91, 253, 19, 101, 253, 21, 99, 75, 253, 249, 65, 93, 226, 116, 14, 10, 241, 231, 213, 101, 72, 7, 41, 245] by decide +kernel]
theorem k4 : rt [lf [0], lf [1], lf [2], lf [3]] = ⟨[155, 205, 81, 36, 10, 244, 0, 81, 104, 240, 51, 18, 27, 168, 91, 229, 166, 237, 79, 14, 106, 95, 172, 38, 32, 102, 114, 155, 143, 191, 222, 203].toArray⟩ := by
  rw [show ∀ a b c d, rt [a, b, c, d] = nd (nd a b) (nd c d) from fun _ _ _ _ => rfl, kl0, kl1, kl2, kl3, kn01, kn23, kn03]
theorem k3 : rt [lf [4], lf [5], lf [6]] = ⟨[137, 201, 41, 131, 78, 209, 69, 155, 7, 246, 91, 94, 26, 33, 67, 168, 207, 93, 142, 253, 243, 15, 73, 255, 255, 163, 40, 187, 29, 145, 51, 187].toArray⟩ := by
  rw [show ∀ a b c, rt [a, b, c] = nd (nd a b) c from fun _ _ _ => rfl, kl4, kl5, kl6, kn45, kn46]
theorem k7 : rt [lf [0], lf [1], lf [2], lf [3], lf [4], lf [5], lf [6]] = ⟨[53, 96, 25, 24, 3, 2, 132, 68, 178, 50, 1, 138, 192, 71, 253, 181, 97, 192, 156, 35, 167, 166, 135, 108, 133, 224, 139, 94, 77, 72, 233, 243].toArray⟩ := by
  rw [show ∀ a b c d e f g, rt [a, b, c, d, e, f, g] = nd (nd (nd a b) (nd c d)) (nd (nd e f) g) from fun _ _ _ _ _ _ _ => rfl, kl0, kl1, kl2, kl3, kl4, kl5, kl6, kn01, kn23, kn03, kn45, kn46, kn06]
theorem k_no : nd (rt [lf [0], lf [1], lf [2], lf [3], lf [4], lf [5], lf [6]]) (rt [lf [4], lf [5], lf [6]]) ≠ rt [lf [0], lf [1], lf [2], lf [3]] := by
  rw [k7, k3, k4, knx]
  intro h
  have := congrArg (fun x : ByteArray => x.data.toList.headD 0) h
  revert this; decide
end Go.Proofs.YtldghdbbooopdaaDoor.CoW

/- rubrickref03.Leaf; the digests that the statements look at. -/
namespace Go.Proofs.YtldghdbbooopdaaDoor.TrW
open Go.RowKit TreeW
open ShaW Sha
/-- The digests that the statements look at. -/
def dg (bss : List (List UInt8)) : List ByteArray := (bss.filter fun b => decide (b.length ≤ 1000)).map lf
theorem dg_digs (bss : List (List UInt8)) : Digs (dg bss) := lf_digs _
theorem dg_len (bss : List (List UInt8)) : (dg bss).length ≤ bss.length := by unfold dg; rw [List.length_map]; exact List.length_filter_le _ _
theorem dg_more {bss : List (List UInt8)} {j : Nat} {x : List UInt8} (h : bss[j]? = some x) (hx : x.length ≤ 1000) : dg (bss.take (j + 1)) = dg (bss.take j) ++ [lf x] := by
  unfold dg
  rw [List.take_add_one, h, List.filter_append, List.map_append]
  simp [hx]
theorem dg_same {bss : List (List UInt8)} {j : Nat} {x : List UInt8} (h : bss[j]? = some x) (hx : ¬ x.length ≤ 1000) : dg (bss.take (j + 1)) = dg (bss.take j) := by
  unfold dg
  rw [List.take_add_one, h, List.filter_append, List.map_append]
  simp [hx]
theorem refLeaf_any (B : Option Addr) (l d : Nat) (bs : List UInt8) (w : World) (hl : bs.length = l) (hb : Sl w B (bcells bs)) (h40 : l ≤ 1000000000000) :
    Calls Tryd.prog 26 #[.slice B l d] w fun e w' => e = .returned (.string (lf bs)) ∧ Below w.heap.size w w' := by
  have HL := Lib.hid hl
  clear hl
  go_enter Tryd.func26, Tryd.ntmps26
  go_wp2_with fail
  refine (SealW.refOf_any 0 B l d bs _ HL.out hb h40).mono ?_
  rintro e w1 ⟨rfl, hb1⟩
  go_wp2_with fail
  go_ret
  exact ⟨rfl, hb1⟩
end Go.Proofs.YtldghdbbooopdaaDoor.TrW
