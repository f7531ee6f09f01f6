/- The set of terms, their places; letters great or small. Nothing of the dump. -/
import Derived.Test.YtpnnebnjkinndaaDoorTs
namespace Go.Proofs.YtpnnebnjkinndaaDoor.TokW
open UtfW
/-- Rising, each once. -/
def Rise (l : List (List UInt8)) : Prop := l.Pairwise (· < ·)
theorem lt_trich (a b : List UInt8) : a < b ∨ a = b ∨ b < a := by
  by_cases h : a < b
  · exact .inl h
  · by_cases h' : b < a
    · exact .inr (.inr h')
    · exact .inr (.inl (List.le_antisymm (by simpa using h') (by simpa using h)))
theorem rise_uniq : ∀ (a b : List (List UInt8)), Rise a → Rise b → (∀ x, x ∈ a ↔ x ∈ b) → a = b
  | [], [], _, _, _ => rfl
  | [], y :: ys, _, _, h => absurd ((h y).2 (by simp)) (by simp)
  | x :: xs, [], _, _, h => absurd ((h x).1 (by simp)) (by simp)
  | x :: xs, y :: ys, ha, hb, h => by
    have ha' := List.pairwise_cons.1 ha
    have hb' := List.pairwise_cons.1 hb
    have hxy : x = y := by
      rcases lt_trich x y with h1 | h1 | h1
      · rcases List.mem_cons.1 ((h x).1 (by simp)) with h2 | h2
        · exact h2
        · exact absurd (List.lt_trans h1 (hb'.1 x h2)) (List.lt_irrefl x)
      · exact h1
      · rcases List.mem_cons.1 ((h y).2 (by simp)) with h2 | h2
        · exact h2.symm
        · exact absurd (List.lt_trans h1 (ha'.1 y h2)) (List.lt_irrefl y)
    subst hxy
    congr 1
    refine rise_uniq xs ys ha'.2 hb'.2 fun z => ⟨fun hz => ?_, fun hz => ?_⟩
    · rcases List.mem_cons.1 ((h z).1 (by simp [hz])) with h2 | h2
      · subst h2; exact absurd (ha'.1 z hz) (List.lt_irrefl z)
      · exact h2
    · rcases List.mem_cons.1 ((h z).2 (by simp [hz])) with h2 | h2
      · subst h2; exact absurd (hb'.1 z hz) (List.lt_irrefl z)
      · exact h2
def insU (x : List UInt8) : List (List UInt8) → List (List UInt8)
  | [] => [x]
  | y :: ys => if x = y then y :: ys else if x < y then x :: y :: ys else y :: insU x ys
def setU (l : List (List UInt8)) : List (List UInt8) := l.foldr insU []
theorem ins_mem (x : List UInt8) : ∀ (l : List (List UInt8)) (z : List UInt8), z ∈ insU x l ↔ z = x ∨ z ∈ l
  | [], z => by simp [insU]
  | y :: ys, z => by
    unfold insU
    split
    · rename_i h; subst h; simp
    · split
      · simp
      · simp only [List.mem_cons, ins_mem x ys z]
        constructor
        · rintro (h | h | h) <;> simp [h]
        · rintro (h | h | h) <;> simp [h]
theorem ins_rise (x : List UInt8) : ∀ (l : List (List UInt8)), Rise l → Rise (insU x l)
  | [], _ => by simp [insU, Rise]
  | y :: ys, h => by
    have h' := List.pairwise_cons.1 h
    unfold insU
    split
    · exact h
    · rename_i hne
      split
      · rename_i hlt
        refine List.pairwise_cons.2 ⟨fun z hz => ?_, h⟩
        rcases List.mem_cons.1 hz with rfl | hz
        · exact hlt
        · exact List.lt_trans hlt (h'.1 z hz)
      · rename_i hlt
        refine List.pairwise_cons.2 ⟨fun z hz => ?_, ins_rise x ys h'.2⟩
        rcases (ins_mem x ys z).1 hz with rfl | hz
        · rcases lt_trich z y with h1 | h1 | h1
          · exact absurd h1 hlt
          · exact absurd h1 hne
          · exact h1
        · exact h'.1 z hz
theorem set_rise : ∀ l : List (List UInt8), Rise (setU l)
  | [] => List.Pairwise.nil
  | x :: xs => ins_rise x _ (set_rise xs)
theorem set_mem : ∀ (l : List (List UInt8)) (z : List UInt8), z ∈ setU l ↔ z ∈ l
  | [], z => by simp [setU]
  | x :: xs, z => by
    have : setU (x :: xs) = insU x (setU xs) := rfl
    rw [this, ins_mem, set_mem xs z, List.mem_cons]
/-- What rises and has just these is the set. -/
theorem set_uniq {s l : List (List UInt8)} (h : Rise s) (hm : ∀ x, x ∈ s ↔ x ∈ l) : s = setU l :=
  rise_uniq _ _ h (set_rise l) fun x => (hm x).trans (set_mem l x).symm
/-- The least, then the set of the others. -/
theorem set_least {l : List (List UInt8)} {m : List UInt8} (hm : m ∈ l) (hl : ∀ x ∈ l, ¬ x < m) : setU l = m :: setU (l.filter fun x => decide (x ≠ m)) := by
  refine (set_uniq (List.pairwise_cons.2 ⟨fun z hz => ?_, set_rise _⟩) fun x => ?_).symm
  · have hz' := List.mem_filter.1 ((set_mem _ z).1 hz)
    have hne : z ≠ m := by simpa using hz'.2
    rcases lt_trich m z with h | h | h
    · exact h
    · exact absurd h.symm hne
    · exact absurd h (hl z hz'.1)
  · rw [List.mem_cons, set_mem, List.mem_filter]
    constructor
    · rintro (rfl | h)
      · exact hm
      · exact h.1
    · intro h
      by_cases e : x = m
      · exact .inl e
      · exact .inr ⟨h, by simpa using e⟩
theorem set_nil : setU [] = [] := rfl
/-- Where a text stands. -/
def placesU (l : List (List UInt8)) (t : List UInt8) : List Nat := (List.range l.length).filter fun i => decide (l.getD i [] = t)
def placesK (l : List (List UInt8)) (t : List UInt8) (k : Nat) : List Nat := (List.range k).filter fun i => decide (l.getD i [] = t)
theorem placesK_all (l : List (List UInt8)) (t : List UInt8) : placesK l t l.length = placesU l t := rfl
theorem placesK_yes {l : List (List UInt8)} {t : List UInt8} {k : Nat} (h : l.getD k [] = t) : placesK l t (k + 1) = placesK l t k ++ [k] := by
  unfold placesK; rw [List.range_succ, List.filter_append]; simp; simpa using h
theorem placesK_no {l : List (List UInt8)} {t : List UInt8} {k : Nat} (h : l.getD k [] ≠ t) : placesK l t (k + 1) = placesK l t k := by
  unfold placesK; rw [List.range_succ, List.filter_append]; simp; simpa using h
theorem placesK_len (l : List (List UInt8)) (t : List UInt8) (k : Nat) : (placesK l t k).length ≤ k := by
  have := List.length_filter_le (fun i => decide (l.getD i [] = t)) (List.range k)
  rw [List.length_range] at this
  exact this
theorem places_mem {l : List (List UInt8)} {t : List UInt8} (h : t ∈ l) : placesU l t ≠ [] := by
  obtain ⟨i, hi, rfl⟩ := List.getElem_of_mem h
  intro h0
  have : i ∈ placesU l l[i] := by
    unfold placesU
    rw [List.mem_filter]
    exact ⟨by simpa using hi, by simp [List.getD, hi]⟩
  rw [h0] at this
  cases this
def posU (l : List (List UInt8)) : List (List UInt8 × Nat) := (setU l).flatMap fun t => (placesU l t).map fun i => (t, i)
/-- Great or small: it makes no difference. -/
def SimC (c d : Nat) : Prop := c = d ∨ (inU c = true ∧ inU d = true ∧ smallN c = smallN d)
def SimL : List Nat → List Nat → Prop
  | [], [] => True
  | c :: cs, d :: ds => SimC c d ∧ SimL cs ds
  | _, _ => False
theorem simL_refl : ∀ l : List Nat, SimL l l
  | [] => trivial
  | _ :: cs => ⟨.inl rfl, simL_refl cs⟩
theorem simL_snoc {c d : Nat} (h : SimC c d) : ∀ (l l' : List Nat), SimL l l' → SimL (l ++ [c]) (l' ++ [d])
  | [], [], _ => ⟨h, trivial⟩
  | _ :: cs, _ :: ds, h' => ⟨h'.1, simL_snoc h cs ds h'.2⟩
  | [], _ :: _, h' => h'.elim
  | _ :: _, [], h' => h'.elim
theorem simC_small {c d : Nat} (h : SimC c d) : smallN c = smallN d ∧ inU c = inU d := by
  rcases h with rfl | ⟨h1, h2, h3⟩
  · exact ⟨rfl, rfl⟩
  · exact ⟨h3, by rw [h1, h2]⟩
theorem termG_sim : ∀ (l l' : List Nat) (s : List UInt8), SimL l l' → termG s l = termG s l'
  | [], [], _, _ => rfl
  | c :: cs, d :: ds, s, h => by
    unfold termG
    rw [(simC_small h.1).1, termG_sim cs ds _ h.2]
  | [], _ :: _, _, h => h.elim
  | _ :: _, [], _, h => h.elim
theorem simL_nil : ∀ {l l' : List Nat}, SimL l l' → (l = [] ↔ l' = [])
  | [], [], _ => Iff.rfl
  | _ :: _, _ :: _, _ => by simp
  | [], _ :: _, h => h.elim
  | _ :: _, [], h => h.elim
theorem words_sim : ∀ (l l' cur cur' : List Nat), SimL l l' → SimL cur cur' → (wordsG cur l).map termU = (wordsG cur' l').map termU
  | [], [], cur, cur', _, hc => by
    unfold wordsG
    by_cases h : cur = []
    · rw [if_pos h, if_pos ((simL_nil hc).1 h)]
    · rw [if_neg h, if_neg (fun h' => h ((simL_nil hc).2 h'))]
      simp only [List.map_cons, List.map_nil]
      unfold termU
      rw [termG_sim _ _ _ hc]
  | c :: cs, d :: ds, cur, cur', h, hc => by
    unfold wordsG
    rw [(simC_small h.1).2]
    split
    · exact words_sim cs ds _ _ h.2 (simL_snoc h.1 _ _ hc)
    · rw [List.map_append, List.map_append, words_sim cs ds [] [] h.2 trivial]
      congr 1
      by_cases h0 : cur = []
      · rw [if_pos h0, if_pos ((simL_nil hc).1 h0)]
      · rw [if_neg h0, if_neg (fun h' => h0 ((simL_nil hc).2 h'))]
        simp only [List.map_cons, List.map_nil]
        unfold termU
        rw [termG_sim _ _ _ hc]
  | [], _ :: _, _, _, h, _ => h.elim
  | _ :: _, [], _, _, h, _ => h.elim
/-- Likewise for bytes. -/
def SimB (x y : UInt8) : Prop := x = y ∨ (x.toNat < 128 ∧ y.toNat < 128 ∧ SimC x.toNat y.toNat)
def SimS : List UInt8 → List UInt8 → Prop
  | [], [] => True
  | x :: xs, y :: ys => SimB x y ∧ SimS xs ys
  | _, _ => False
theorem simS_symm : ∀ {a b : List UInt8}, SimS a b → SimS b a
  | [], [], _ => trivial
  | x :: xs, y :: ys, h => by
    refine ⟨?_, simS_symm h.2⟩
    rcases h.1 with h1 | ⟨h1, h2, h3⟩
    · exact .inl h1.symm
    · refine .inr ⟨h2, h1, ?_⟩
      rcases h3 with h3 | ⟨h3, h4, h5⟩
      · exact .inl h3.symm
      · exact .inr ⟨h4, h3, h5.symm⟩
  | [], _ :: _, h => h.elim
  | _ :: _, [], h => h.elim
theorem simS_app : ∀ {p r b : List UInt8}, SimS (p ++ r) b → ∃ p' r', b = p' ++ r' ∧ SimS p p' ∧ SimS r r'
  | [], r, b, h => ⟨[], b, rfl, trivial, h⟩
  | x :: p, r, [], h => h.elim
  | x :: p, r, y :: b, h => by
    obtain ⟨p', r', rfl, h1, h2⟩ := simS_app (p := p) (r := r) (b := b) h.2
    exact ⟨y :: p', r', rfl, ⟨h.1, h1⟩, h2⟩
theorem simS_high : ∀ {p p' : List UInt8}, SimS p p' → (∀ x ∈ p, 128 ≤ x.toNat) → p = p'
  | [], [], _, _ => rfl
  | x :: xs, y :: ys, h, hh => by
    have hx := hh x (by simp)
    have e : x = y := by
      rcases h.1 with h1 | ⟨h1, _, _⟩
      · exact h1
      · omega
    rw [e, simS_high h.2 (fun z hz => hh z (by simp [hz]))]
  | [], _ :: _, h, _ => h.elim
  | _ :: _, [], h, _ => h.elim
theorem enc_head_high {c : Nat} {x : UInt8} {r : List UInt8} (h : encU c = x :: r) : ∀ z ∈ r, 128 ≤ z.toNat := by
  intro z hz
  obtain ⟨i, hi, rfl⟩ := List.getElem_of_mem hz
  have := enc_cont (c := c) (i + 1) (by omega) (by rw [h]; simpa using hi)
  rw [h] at this
  simpa [List.getD, hi] using this
theorem one_sim {x y : UInt8} {xs ys : List UInt8} (hx : 128 ≤ x.toNat) (h : SimS (x :: xs) (y :: ys)) (c : Nat) (r : List UInt8) (he : x :: xs = encU c ++ r) : ∃ r', y :: ys = encU c ++ r' ∧ SimS r r' := by
  rw [he] at h
  obtain ⟨p', r', h1, h2, h3⟩ := simS_app h
  have hp : encU c = p' := by
    refine simS_high h2 ?_
    cases hc : encU c with
    | nil => intro z hz; cases hz
    | cons z zs =>
      have hz := enc_head_high hc
      rw [hc] at he
      have : x = z := (List.cons.inj he).1
      intro w hw
      rcases List.mem_cons.1 hw with rfl | hw
      · rw [← this]; exact hx
      · exact hz w hw
  exact ⟨r', by rw [h1, hp], h3⟩
theorem okU_split {b : List UInt8} {n : Nat} (h : okU b n) : rightC (((valU b n).toNat : Nat) : Int) ∧ b = encU (valU b n).toNat ++ b.drop n := by
  obtain ⟨_, h2, h3⟩ := h
  have h0 : 0 ≤ valU b n := by unfold rightC at h2; omega
  exact ⟨by rw [Int.toNat_of_nonneg h0]; exact h2, by rw [h3, List.take_append_drop]⟩
theorem one_ways (b : List UInt8) : (∃ c r, rightC ((c : Nat) : Int) ∧ b = encU c ++ r ∧ one b = (c, (encU c).length)) ∨ (one b = (65533, 1) ∧ ∀ c r, rightC ((c : Nat) : Int) → b ≠ encU c ++ r) := by
  by_cases h : okU b (lenB (b.getD 0 0))
  · obtain ⟨h1, h2⟩ := okU_split h
    refine .inl ⟨_, _, h1, h2, ?_⟩
    have := one_enc h1 (b.drop (lenB (b.getD 0 0)))
    rw [← h2] at this
    exact this
  · by_cases hx : ∃ c r, rightC ((c : Nat) : Int) ∧ b = encU c ++ r
    · obtain ⟨c, r, h1, h2⟩ := hx
      exact .inl ⟨c, r, h1, h2, by rw [h2]; exact one_enc h1 r⟩
    · refine .inr ⟨?_, fun c r h1 h2 => hx ⟨c, r, h1, h2⟩⟩
      unfold one
      rw [if_neg h]
theorem dec_sim : ∀ (n : Nat) (a b : List UInt8), a.length ≤ n → SimS a b → SimL (dec a) (dec b)
  | _, [], [], _, _ => trivial
  | _, [], _ :: _, _, h => h.elim
  | _, _ :: _, [], _, h => h.elim
  | 0, _ :: _, _ :: _, h, _ => absurd h (by simp)
  | n + 1, x :: xs, y :: ys, hn, h => by
    have hn' : xs.length ≤ n := by simpa using hn
    by_cases hx : x.toNat < 128
    · have hy : y.toNat < 128 ∧ SimC x.toNat y.toNat := by
        rcases h.1 with h1 | ⟨_, h2, h3⟩
        · subst h1; exact ⟨hx, .inl rfl⟩
        · exact ⟨h2, h3⟩
      rw [dec_mark x xs hx, dec_mark y ys hy.1]
      exact ⟨hy.2, dec_sim n xs ys hn' h.2⟩
    · have e : x = y := by
        rcases h.1 with h1 | ⟨h1, _, _⟩
        · exact h1
        · exact absurd h1 hx
      rw [dec_cons (x :: xs) (by simp), dec_cons (y :: ys) (by simp)]
      rcases one_ways (x :: xs) with ⟨c, r, h1, h2, h3⟩ | ⟨h1, h2⟩
      · obtain ⟨r', h4, h5⟩ := one_sim (by omega) h c r h2
        have h6 := one_enc h1 r'
        rw [← h4] at h6
        rw [h3, h6]
        refine ⟨.inl rfl, ?_⟩
        rw [h2, h4]
        simp only [List.drop_left]
        have hl := congrArg List.length h2
        have hp := encU_pos c
        rw [List.length_append] at hl
        exact dec_sim n r r' (by simp at hl hn; omega) h5
      · rcases one_ways (y :: ys) with ⟨c, r, h4, h5, _⟩ | ⟨h4, _⟩
        · obtain ⟨r', h6, _⟩ := one_sim (by rw [← e]; omega) (simS_symm h) c r h5
          exact absurd h6 (h2 c r' h4)
        · rw [h1, h4]
          exact ⟨.inl rfl, dec_sim n xs ys hn' h.2⟩
theorem terms_sim {a b : List UInt8} (h : SimS a b) : termsU a = termsU b := words_sim _ _ [] [] (dec_sim a.length a b (Nat.le_refl _) h) trivial
/-- A letter from a to z, changed. -/
def flip8 (x : UInt8) : UInt8 := if 97 ≤ x.toNat ∧ x.toNat ≤ 122 then x - 32 else if 65 ≤ x.toNat ∧ x.toNat ≤ 90 then x + 32 else x
theorem flip_simN : ∀ k : Fin 256, SimB (UInt8.ofNat k.val) (flip8 (UInt8.ofNat k.val)) := by
  have key : ∀ k : Fin 256, flip8 (UInt8.ofNat k.val) = UInt8.ofNat k.val ∨ ((UInt8.ofNat k.val).toNat < 128 ∧ (flip8 (UInt8.ofNat k.val)).toNat < 128 ∧ inU (UInt8.ofNat k.val).toNat = true ∧ inU (flip8 (UInt8.ofNat k.val)).toNat = true ∧ smallN (UInt8.ofNat k.val).toNat = smallN (flip8 (UInt8.ofNat k.val)).toNat) := by decide +kernel
  intro k
  rcases key k with h | ⟨h1, h2, h3, h4, h5⟩
  · exact .inl h.symm
  · exact .inr ⟨h1, h2, .inr ⟨h3, h4, h5⟩⟩
theorem flip_sim (x : UInt8) : SimB x (flip8 x) := by
  have := flip_simN ⟨x.toNat, x.toNat_lt⟩
  simpa using this
end Go.Proofs.YtpnnebnjkinndaaDoor.TokW
