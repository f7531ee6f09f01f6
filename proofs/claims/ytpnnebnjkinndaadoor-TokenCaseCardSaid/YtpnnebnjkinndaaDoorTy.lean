/- What is a term is its own only one; terms with places, gathered term by term. Nothing of the dump. -/
import Derived.Test.YtpnnebnjkinndaaDoorTw
namespace Go.Proofs.YtpnnebnjkinndaaDoor.TokW
open UtfW
theorem termG_small : ∀ (l : List Nat) (s : List UInt8), (∀ x ∈ l, smallN x = x) → (s ++ l.flatMap encU).length ≤ 64 → termG s l = s ++ l.flatMap encU
  | [], s, _, _ => by simp [termG]
  | c :: cs, s, h, hl => by
    have hc := h c (by simp)
    have e : s ++ (c :: cs).flatMap encU = (s ++ encU c) ++ cs.flatMap encU := by simp
    rw [e] at hl ⊢
    unfold termG
    rw [hc, if_neg (by rw [List.length_append, List.length_append] at hl; omega)]
    exact termG_small cs _ (fun x hx => h x (by simp [hx])) hl
theorem inU_bad : inU 65533 = false := by decide
theorem right_spec {b : List UInt8} : rightT b = true ↔ (∀ c ∈ dec b, inU c = true ∧ smallN c = c) ∧ dec b ≠ [] ∧ b.length ≤ 64 := by
  unfold rightT
  simp only [Bool.and_eq_true, List.all_eq_true, Bool.not_eq_true', List.isEmpty_eq_false_iff, decide_eq_true_eq, beq_iff_eq]
  constructor
  · rintro ⟨⟨h1, h2⟩, h3⟩; exact ⟨h1, h2, h3⟩
  · rintro ⟨h1, h2, h3⟩; exact ⟨⟨h1, h2⟩, h3⟩
theorem right_self {b : List UInt8} (h : rightT b = true) : termsU b = [b] := by
  obtain ⟨h1, h2, h3⟩ := right_spec.1 h
  have hb := (dec_only b.length b (Nat.le_refl _) (fun c hc e => by rw [e] at hc; have := (h1 _ hc).1; rw [inU_bad] at this; cases this)).1
  unfold termsU
  rw [termsC_end _ (fun c hc => (h1 c hc).1), if_neg h2]
  congr 1
  have := termG_small (dec b) [] (fun c hc => (h1 c hc).2) (by rw [List.nil_append, hb]; exact h3)
  rw [List.nil_append, hb] at this
  exact this
theorem right_iff (b : List UInt8) : termsU b = [b] ↔ rightT b = true :=
  ⟨fun h => (terms_right b b (by rw [h]; simp)).1, right_self⟩
theorem right_many {b : List UInt8} (h : (termsU b).length ≠ 1) : rightT b = false := by
  rcases hr : rightT b with _ | _
  · rfl
  · rw [right_self hr] at h; exact absurd rfl h
theorem right_other {b x : List UInt8} (h : termsU b = [x]) (hne : x ≠ b) : rightT b = false := by
  rcases hr : rightT b with _ | _
  · rfl
  · rw [right_self hr] at h; exact absurd (List.cons.inj h).1.symm hne
/-- All characters up to place k are small ones of words. -/
def okK (l : List Nat) (k : Nat) : Prop := ∀ c ∈ l.take k, inU c = true ∧ smallN c = c
theorem okK_zero (l : List Nat) : okK l 0 := by intro c hc; simp at hc
theorem okK_succ {l : List Nat} {k c : Nat} (h : k < l.length) (hc : l.getD k 0 = c) (ho : okK l k) (h1 : inU c = true) (h2 : smallN c = c) : okK l (k + 1) := by
  intro x hx
  rw [List.take_succ_eq_append_getElem h] at hx
  rcases List.mem_append.1 hx with hx | hx
  · exact ho x hx
  · have e : l[k] = c := by simpa [List.getD, h] using hc
    rw [List.mem_singleton, e] at hx
    subst hx; exact ⟨h1, h2⟩
theorem ok_fail {b : List UInt8} {k c : Nat} (h : k < (dec b).length) (hc : (dec b).getD k 0 = c) (hn : ¬ (inU c = true ∧ smallN c = c)) : rightT b = false := by
  rcases hr : rightT b with _ | _
  · rfl
  · refine absurd ((right_spec.1 hr).1 c ?_) hn
    have e : (dec b)[k] = c := by simpa [List.getD, h] using hc
    rw [← e]; exact List.getElem_mem h
theorem ok_all {b : List UInt8} (h : okK (dec b) (dec b).length) : rightT b = (decide (0 < (dec b).length) && decide (b.length ≤ 64)) := by
  rw [Bool.eq_iff_iff, right_spec]
  simp only [Bool.and_eq_true, decide_eq_true_eq]
  unfold okK at h
  rw [List.take_length] at h
  constructor
  · rintro ⟨_, h2, h3⟩; exact ⟨List.length_pos_iff.2 h2, h3⟩
  · rintro ⟨h2, h3⟩; exact ⟨h, List.length_pos_iff.1 h2, h3⟩
/-- The terms with their places, of the first i of the set. -/
def posK (l : List (List UInt8)) (i : Nat) : List Pl := ((setU l).take i).flatMap fun t => (placesU l t).map fun j => (t, j)
theorem posK_zero (l : List (List UInt8)) : posK l 0 = [] := rfl
theorem posK_all (l : List (List UInt8)) {i : Nat} (h : (setU l).length ≤ i) : posK l i = posU l := by
  unfold posK posU; rw [List.take_of_length_le h]
theorem posK_succ {l : List (List UInt8)} {i : Nat} {t : List UInt8} (h : i < (setU l).length) (ht : (setU l).getD i [] = t) : posK l (i + 1) = posK l i ++ (placesU l t).map fun j => (t, j) := by
  have e : (setU l)[i] = t := by simpa [List.getD, h] using ht
  unfold posK
  rw [List.take_succ_eq_append_getElem h, List.flatMap_append, e]
  simp
theorem posK_le (l : List (List UInt8)) (i : Nat) : (posK l i).length ≤ l.length := by
  rw [← posU_len l]
  unfold posK posU
  conv => rhs; rw [← List.take_append_drop i (setU l), List.flatMap_append, List.length_append]
  omega
theorem posK_le2 {l : List (List UInt8)} {i : Nat} {t : List UInt8} (h : i < (setU l).length) (ht : (setU l).getD i [] = t) : (posK l i).length + (placesU l t).length ≤ l.length := by
  have := posK_le l (i + 1)
  rw [posK_succ h ht, List.length_append, List.length_map] at this
  exact this
end Go.Proofs.YtpnnebnjkinndaaDoor.TokW
