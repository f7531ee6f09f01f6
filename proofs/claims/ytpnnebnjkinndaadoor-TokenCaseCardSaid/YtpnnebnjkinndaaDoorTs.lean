/- Terms in plain words: words of characters, their terms, the set, the places. Nothing of the dump. -/
import Derived.Test.YtpnnebnjkinndaaDoorUs
namespace Go.Proofs.YtpnnebnjkinndaaDoor.TokW
open UtfW
/-- Is a character one of a word? -/
def inU (c : Nat) : Bool := letterU (c : Int) || inR (c : Int) 48 57
def smallN (c : Nat) : Nat := (smallU (c : Int)).toNat
theorem small_nat (c : Nat) : smallU (c : Int) = (smallN c : Int) := by
  unfold smallN
  have : 0 ≤ smallU (c : Int) := by unfold smallU; split <;> (try split) <;> omega
  omega
/-- The term of a word's characters. -/
def termG (s : List UInt8) : List Nat → List UInt8
  | [] => s
  | c :: cs => if 64 < s.length + (encU (smallN c)).length then s else termG (s ++ encU (smallN c)) cs
def termU (l : List Nat) : List UInt8 := termG [] l
/-- The words of characters. -/
def wordsG : List Nat → List Nat → List (List Nat)
  | cur, [] => if cur = [] then [] else [cur]
  | cur, c :: cs => if inU c then wordsG (cur ++ [c]) cs else (if cur = [] then [] else [cur]) ++ wordsG [] cs
def wordsU (l : List Nat) : List (List Nat) := wordsG [] l
def termsC (l : List Nat) : List (List UInt8) := (wordsU l).map termU
def termsU (b : List UInt8) : List (List UInt8) := termsC (dec b)
/-- P5.4, over characters. -/
theorem wordsG_app (ys : List Nat) (m : Nat) (hm : inU m = false) : ∀ (xs cur : List Nat), wordsG cur (xs ++ m :: ys) = wordsG cur xs ++ wordsG [] ys
  | [], cur => by simp only [List.nil_append, wordsG, hm]; simp
  | x :: xs, cur => by
    simp only [List.cons_append, wordsG]
    split
    · exact wordsG_app ys m hm xs _
    · rw [wordsG_app ys m hm xs [], List.append_assoc]
theorem termsC_app (xs ys : List Nat) (m : Nat) (hm : inU m = false) : termsC (xs ++ m :: ys) = termsC xs ++ termsC ys := by
  unfold termsC wordsU
  rw [wordsG_app ys m hm, List.map_append]
theorem terms_rows (a : List UInt8) (m : UInt8) (b : List UInt8) (h : m.toNat < 128) (hm : inU m.toNat = false) : termsU (a ++ m :: b) = termsU a ++ termsU b := by
  unfold termsU
  rw [dec_rows a.length a m b (Nat.le_refl _) h, termsC_app _ _ _ hm]
/-- A run of characters of words, then its end. -/
theorem wordsG_run (xs : List Nat) (h : ∀ x ∈ xs, inU x = true) : ∀ (cur rest : List Nat), wordsG cur (xs ++ rest) = wordsG (cur ++ xs) rest := by
  induction xs with
  | nil => intro cur rest; simp
  | cons x xs ih =>
    intro cur rest
    simp only [List.cons_append, wordsG]
    rw [if_pos (h x (by simp)), ih (fun y hy => h y (by simp [hy]))]
    simp
theorem words_stop (xs rest : List Nat) (m : Nat) (h : ∀ x ∈ xs, inU x = true) (hm : inU m = false) : wordsU (xs ++ m :: rest) = (if xs = [] then [] else [xs]) ++ wordsU rest := by
  unfold wordsU
  rw [wordsG_run xs h, List.nil_append]
  simp only [wordsG, hm]
  simp
theorem words_end (xs : List Nat) (h : ∀ x ∈ xs, inU x = true) : wordsU xs = (if xs = [] then [] else [xs]) := by
  have := wordsG_run xs h [] []
  unfold wordsU
  rw [List.append_nil] at this
  rw [this, List.nil_append]
  rfl
theorem words_in : ∀ (l cur : List Nat), (∀ x ∈ cur, inU x = true) → ∀ w ∈ wordsG cur l, w ≠ [] ∧ ∀ x ∈ w, inU x = true
  | [], cur, hc => by
    intro w hw
    unfold wordsG at hw
    split at hw
    · cases hw
    · rename_i h0
      rw [List.mem_singleton] at hw; subst hw; exact ⟨h0, hc⟩
  | c :: cs, cur, hc => by
    intro w hw
    unfold wordsG at hw
    split at hw
    · rename_i h1
      exact words_in cs (cur ++ [c]) (fun x hx => (List.mem_append.1 hx).elim (hc x) (fun h => by rw [List.mem_singleton.1 h]; exact h1)) w hw
    · rcases List.mem_append.1 hw with hw | hw
      · split at hw
        · cases hw
        · rename_i h0
          rw [List.mem_singleton] at hw; subst hw; exact ⟨h0, hc⟩
      · exact words_in cs [] (by simp) w hw
/-- The lowercase form of a character of a word: one of a word, its own lowercase form, a character. -/
theorem in_small {c : Nat} (h : inU c = true) : inU (smallN c) = true ∧ smallN (smallN c) = smallN c ∧ rightC ((smallN c : Nat) : Int) := by
  unfold inU at h
  rw [Bool.or_eq_true] at h
  by_cases hl : letterU (c : Int) = true
  · obtain ⟨h1, h2, h3⟩ := small_letter hl
    rw [small_nat] at h1 h2 h3
    rw [small_nat] at h2
    exact ⟨by unfold inU; rw [h1]; rfl, by exact_mod_cast h2, h3⟩
  · have hl' : letterU (c : Int) = false := by simpa using hl
    have hd := h.resolve_left hl
    have hs := small_no hl'
    rw [small_nat] at hs
    have e : smallN c = c := by exact_mod_cast hs
    rw [e, e]
    refine ⟨by unfold inU; rw [hd]; simp, rfl, ?_⟩
    unfold inR at hd
    simp at hd
    unfold rightC
    omega
/-- A term is the bytes of small characters of words, of at most 64 bytes. -/
theorem termG_spec : ∀ (l : List Nat) (s : List Nat), (∀ x ∈ l, inU x = true) → (s.flatMap encU).length ≤ 64 →
    ∃ t, termG (s.flatMap encU) l = (s ++ t).flatMap encU ∧ ((s ++ t).flatMap encU).length ≤ 64 ∧ (∀ x ∈ t, inU x = true ∧ smallN x = x ∧ rightC (x : Int)) ∧ (l ≠ [] → s = [] → t ≠ [])
  | [], s, _, hs => ⟨[], by simp [termG], by simpa using hs, by simp, fun h => absurd rfl h⟩
  | c :: cs, s, hl, hs => by
    unfold termG
    have hc := in_small (hl c (by simp))
    by_cases h : 64 < (s.flatMap encU).length + (encU (smallN c)).length
    · rw [if_pos h]
      refine ⟨[], by simp, by simpa using hs, by simp, fun _ h0 => ?_⟩
      subst h0
      have := encU_le4 (smallN c)
      simp at h; omega
    · rw [if_neg h]
      have e : s.flatMap encU ++ encU (smallN c) = (s ++ [smallN c]).flatMap encU := by simp
      obtain ⟨t, h1, h2, h3, _⟩ := termG_spec cs (s ++ [smallN c]) (fun x hx => hl x (by simp [hx])) (by rw [← e, List.length_append]; omega)
      refine ⟨smallN c :: t, ?_, ?_, ?_, fun _ _ => by simp⟩
      · rw [e, h1, List.append_assoc]; rfl
      · rw [List.append_assoc] at h2; exact h2
      · intro x hx
        rcases List.mem_cons.1 hx with rfl | hx
        · exact hc
        · exact h3 x hx
/-- Is a text a term? -/
def rightT (s : List UInt8) : Bool := (dec s).all (fun c => inU c && smallN c == c) && !(dec s).isEmpty && decide (s.length ≤ 64)
theorem termU_right (l : List Nat) (h : ∀ x ∈ l, inU x = true) (hn : l ≠ []) : rightT (termU l) = true := by
  obtain ⟨t, h1, h2, h3, h4⟩ := termG_spec l [] h (by simp)
  simp only [List.nil_append] at h1 h2
  have e : termU l = t.flatMap encU := h1
  unfold rightT
  rw [e, dec_back t (fun c hc => (h3 c hc).2.2)]
  have hne := h4 hn rfl
  simp only [Bool.and_eq_true, List.all_eq_true, Bool.not_eq_true', List.isEmpty_eq_false_iff, decide_eq_true_eq, beq_iff_eq]
  exact ⟨⟨fun x hx => ⟨(h3 x hx).1, (h3 x hx).2.1⟩, hne⟩, h2⟩
theorem terms_right (b : List UInt8) : ∀ s ∈ termsU b, rightT s = true ∧ s.length ≤ 64 ∧ s ≠ [] := by
  intro s hs
  unfold termsU termsC at hs
  obtain ⟨w, hw, rfl⟩ := List.mem_map.1 hs
  obtain ⟨h1, h2⟩ := words_in (dec b) [] (by simp) w hw
  have hr := termU_right w h2 h1
  refine ⟨hr, ?_, ?_⟩
  · unfold rightT at hr
    simp only [Bool.and_eq_true, decide_eq_true_eq] at hr
    exact hr.2
  · intro h0
    rw [h0] at hr
    simp [rightT, dec_nil] at hr
end Go.Proofs.YtpnnebnjkinndaaDoor.TokW
