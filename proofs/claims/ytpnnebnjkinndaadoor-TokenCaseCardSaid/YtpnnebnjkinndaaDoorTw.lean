/- How long the word is that characters begin with, and what is left behind it. Nothing of the dump. -/
import Derived.Test.YtpnnebnjkinndaaDoorTv
namespace Go.Proofs.YtpnnebnjkinndaaDoor.TokW
open UtfW
def wl : List Nat → Nat
  | [] => 0
  | c :: cs => if inU c then wl cs + 1 else 0
theorem wl_yes {c : Nat} {cs : List Nat} (h : inU c = true) : wl (c :: cs) = wl cs + 1 := by simp [wl, h]
theorem wl_no {c : Nat} {cs : List Nat} (h : inU c = false) : wl (c :: cs) = 0 := by simp [wl, h]
theorem wl_le : ∀ cs : List Nat, wl cs ≤ cs.length
  | [] => Nat.le_refl _
  | c :: cs => by
    have := wl_le cs
    unfold wl; split
    · simp only [List.length_cons]; omega
    · simp
theorem wl_split : ∀ cs : List Nat, (∀ x ∈ cs.take (wl cs), inU x = true) ∧ (cs.drop (wl cs) = [] ∨ ∃ m r, cs.drop (wl cs) = m :: r ∧ inU m = false)
  | [] => ⟨by simp, .inl rfl⟩
  | c :: cs => by
    by_cases h : inU c = true
    · rw [wl_yes h]
      obtain ⟨h1, h2⟩ := wl_split cs
      refine ⟨?_, h2⟩
      intro x hx
      rw [List.take_succ_cons] at hx
      rcases List.mem_cons.1 hx with rfl | hx
      · exact h
      · exact h1 x hx
    · have h' : inU c = false := by simpa using h
      rw [wl_no h']
      exact ⟨by simp, .inr ⟨c, cs, rfl, h'⟩⟩
theorem termsC_stop (xs rest : List Nat) (m : Nat) (h : ∀ x ∈ xs, inU x = true) (hm : inU m = false) : termsC (xs ++ m :: rest) = (if xs = [] then [] else [termU xs]) ++ termsC rest := by
  unfold termsC
  rw [words_stop xs rest m h hm, List.map_append]
  split <;> rfl
theorem termsC_end (xs : List Nat) (h : ∀ x ∈ xs, inU x = true) : termsC xs = (if xs = [] then [] else [termU xs]) := by
  unfold termsC
  rw [words_end xs h]
  split <;> rfl
theorem termsC_nil : termsC [] = [] := rfl
theorem take_nil_iff (cs : List Nat) : cs.take (wl cs) = [] ↔ wl cs = 0 := by
  rw [← List.length_eq_zero_iff, List.length_take]
  have := wl_le cs
  omega
theorem termsC_step (cs : List Nat) : termsC cs = (if wl cs = 0 then [] else [termU (cs.take (wl cs))]) ++ termsC (cs.drop (wl cs + 1)) := by
  obtain ⟨h1, h2⟩ := wl_split cs
  have e : cs = cs.take (wl cs) ++ cs.drop (wl cs) := (List.take_append_drop ..).symm
  rcases h2 with h2 | ⟨m, r, h2, h3⟩
  · have e3 : cs.drop (wl cs + 1) = [] := by rw [← List.drop_drop, h2]; rfl
    rw [h2, List.append_nil] at e
    rw [e3]
    conv => lhs; rw [e]
    rw [termsC_end _ h1, termsC_nil, List.append_nil]
    by_cases h : wl cs = 0
    · rw [if_pos ((take_nil_iff cs).2 h), if_pos h]
    · rw [if_neg (fun h' => h ((take_nil_iff cs).1 h')), if_neg h]
  · have e3 : cs.drop (wl cs + 1) = r := by rw [← List.drop_drop, h2]; rfl
    rw [h2] at e
    rw [e3]
    conv => lhs; rw [e]
    rw [termsC_stop _ _ _ h1 h3]
    by_cases h : wl cs = 0
    · rw [if_pos ((take_nil_iff cs).2 h), if_pos h]
    · rw [if_neg (fun h' => h ((take_nil_iff cs).1 h')), if_neg h]
theorem termsC_no {cs : List Nat} (h : wl cs = 0) : termsC cs = termsC (cs.drop 1) := by
  conv => lhs; rw [termsC_step cs]
  rw [if_pos h, h]; rfl
theorem termsC_yes {cs : List Nat} (h : 0 < wl cs) : termsC cs = termU (cs.take (wl cs)) :: termsC (cs.drop (wl cs)) := by
  conv => lhs; rw [termsC_step cs]
  rw [if_neg (by omega), List.singleton_append]
  congr 1
  obtain ⟨_, h2⟩ := wl_split cs
  rcases h2 with h2 | ⟨m, r, h2, h3⟩
  · rw [← List.drop_drop, h2]; rfl
  · rw [← List.drop_drop, h2]
    exact (termsC_no (cs := m :: r) (wl_no h3)).symm
theorem wl_drop {cs : List Nat} {k : Nat} {c : Nat} (h : k < cs.length) (hc : cs.getD k 0 = c) (hi : inU c = true) : wl (cs.drop k) = wl (cs.drop (k + 1)) + 1 := by
  rw [List.drop_eq_getElem_cons h]
  have : cs[k] = c := by simpa [List.getD, h] using hc
  rw [this, wl_yes hi]
theorem wl_drop_no {cs : List Nat} {k : Nat} {c : Nat} (h : k < cs.length) (hc : cs.getD k 0 = c) (hi : inU c = false) : wl (cs.drop k) = 0 := by
  rw [List.drop_eq_getElem_cons h]
  have : cs[k] = c := by simpa [List.getD, h] using hc
  rw [this, wl_no hi]
theorem wl_drop_end (cs : List Nat) {k : Nat} (h : cs.length ≤ k) : wl (cs.drop k) = 0 := by
  rw [List.drop_eq_nil_of_le h]; rfl
theorem termsC_len : ∀ (n : Nat) (cs : List Nat), cs.length ≤ n → (termsC cs).length ≤ cs.length
  | 0, cs, h => by rw [List.eq_nil_of_length_eq_zero (by omega : cs.length = 0)]; simp [termsC_nil]
  | n + 1, cs, h => by
    have hw := wl_le cs
    have h1 := termsC_len n (cs.drop (wl cs + 1)) (by rw [List.length_drop]; omega)
    rw [List.length_drop] at h1
    rw [termsC_step cs, List.length_append]
    split
    · simp only [List.length_nil]; omega
    · simp only [List.length_singleton]; omega
theorem terms_len (b : List UInt8) : (termsU b).length ≤ b.length := Nat.le_trans (termsC_len _ (dec b) (Nat.le_refl _)) (dec_len b)
/-- A term's characters, one by one. -/
theorem termG_more {s : List UInt8} {c : Nat} {cs : List Nat} {k : Nat} (h : k < cs.length) (hc : cs.getD k 0 = c) (hs : ¬ 64 < s.length + (encU (smallN c)).length) : termG s (cs.drop k) = termG (s ++ encU (smallN c)) (cs.drop (k + 1)) := by
  rw [List.drop_eq_getElem_cons h]
  have : cs[k] = c := by simpa [List.getD, h] using hc
  rw [this]
  conv => lhs; unfold termG
  rw [if_neg hs]
theorem termG_full {s : List UInt8} {c : Nat} {cs : List Nat} {k : Nat} (h : k < cs.length) (hc : cs.getD k 0 = c) (hs : 64 < s.length + (encU (smallN c)).length) : termG s (cs.drop k) = s := by
  rw [List.drop_eq_getElem_cons h]
  have : cs[k] = c := by simpa [List.getD, h] using hc
  rw [this]
  unfold termG
  rw [if_pos hs]
theorem termG_end (s : List UInt8) (cs : List Nat) {k : Nat} (h : cs.length ≤ k) : termG s (cs.drop k) = s := by
  rw [List.drop_eq_nil_of_le h]; rfl
end Go.Proofs.YtpnnebnjkinndaaDoor.TokW
