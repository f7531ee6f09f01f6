/- Sorted rows of texts, and of terms with their places: what is left of them. Nothing of the dump. -/
import Derived.Test.YtpnnebnjkinndaaDoorTv
import Derived.Lib.Bytealg
import Derived.Lib.Small
namespace Go.Proofs.YtpnnebnjkinndaaDoor.TokW
open UtfW Go.Sort
theorem cmp_lt : ∀ (a b : List UInt8), Lib.compareBytes a b < 0 ↔ a < b
  | [], [] => by simp [Lib.compareBytes]
  | [], _ :: _ => by simp [Lib.compareBytes]
  | _ :: _, [] => by simp [Lib.compareBytes]
  | x :: a, y :: b => by
    unfold Lib.compareBytes
    rw [List.cons_lt_cons_iff]
    by_cases h1 : x < y
    · simp [h1]
    · by_cases h2 : y < x
      · rw [if_neg h1, if_pos h2]
        constructor
        · intro h; exact absurd h (by decide)
        · rintro (h | ⟨h, _⟩)
          · exact absurd h h1
          · subst h; exact absurd h2 h1
      · rw [if_neg h1, if_neg h2, cmp_lt a b]
        have e : x = y := by
          apply UInt8.toNat_inj.1
          have h3 : ¬ x.toNat < y.toNat := fun h => h1 (UInt8.lt_iff_toNat_lt.2 h)
          have h4 : ¬ y.toNat < x.toNat := fun h => h2 (UInt8.lt_iff_toNat_lt.2 h)
          omega
        simp [e]
theorem cmp_eq (a b : List UInt8) : Lib.compareBytes a b = 0 ↔ a = b := by
  constructor
  · induction a generalizing b with
    | nil => cases b <;> simp [Lib.compareBytes]
    | cons x a ih =>
      cases b with
      | nil => simp [Lib.compareBytes]
      | cons y b =>
        unfold Lib.compareBytes
        by_cases h1 : x < y
        · simp [h1]
        · by_cases h2 : y < x
          · simp [h1, h2]
          · rw [if_neg h1, if_neg h2]
            intro h
            have e : x = y := by
              apply UInt8.toNat_inj.1
              have h3 : ¬ x.toNat < y.toNat := fun h => h1 (UInt8.lt_iff_toNat_lt.2 h)
              have h4 : ¬ y.toNat < x.toNat := fun h => h2 (UInt8.lt_iff_toNat_lt.2 h)
              omega
            rw [e, ih b h]
  · rintro rfl
    induction a with
    | nil => rfl
    | cons x a ih => unfold Lib.compareBytes; simp [ih, UInt8.lt_irrefl]
def ltS (x y : List UInt8) : Bool := decide (Lib.compareBytes x y < 0)
theorem ltS_iff (x y : List UInt8) : ltS x y = decide (x < y) := by unfold ltS; rw [decide_eq_decide]; exact cmp_lt x y
theorem swo_of {α : Type} {lt : α → α → Prop} [DecidableRel lt] (irr : ∀ a, ¬ lt a a) (tr : ∀ a b c, lt a b → lt b c → lt a c) (tri : ∀ a b, lt a b ∨ a = b ∨ lt b a) : SWO (fun a b => decide (lt a b)) where
  irrefl x := by simpa using irr x
  trans x y z h1 h2 := by simp only [decide_eq_true_eq] at *; exact tr _ _ _ h1 h2
  ntrans x y z h1 h2 := by
    simp only [decide_eq_false_iff_not] at *
    intro h
    rcases tri x y with g | g | g
    · exact h1 g
    · subst g; exact h2 h
    · rcases tri y z with k | k | k
      · exact h2 k
      · subst k; exact h1 h
      · exact irr _ (tr _ _ _ h (tr _ _ _ k g))
theorem swoS : SWO ltS := by
  have e : ltS = fun a b => decide (a < b) := by funext x y; exact ltS_iff x y
  rw [e]
  exact swo_of List.lt_irrefl (fun a b c h1 h2 => List.lt_trans h1 h2) lt_trich
instance (a b : Pl) : Decidable (ltP a b) := by unfold ltP; infer_instance
/-- By term, then by place. -/
def cmpP (x y : Pl) : Int := if Lib.compareBytes x.1 y.1 = 0 then Lib.compareInt x.2 y.2 else Lib.compareBytes x.1 y.1
def lessP (x y : Pl) : Bool := decide (cmpP x y < 0)
theorem lessP_iff (x y : Pl) : lessP x y = decide (ltP x y) := by
  unfold lessP
  rw [decide_eq_decide]
  unfold cmpP ltP
  by_cases h : Lib.compareBytes x.1 y.1 = 0
  · rw [if_pos h]
    have e := (cmp_eq _ _).1 h
    rw [e]
    unfold Lib.compareInt
    have hn := List.lt_irrefl y.1
    by_cases h1 : x.2 < y.2
    · have : (x.2 : Int) < (y.2 : Int) := by omega
      simp [h1, this]
    · have h1' : ¬ (x.2 : Int) < (y.2 : Int) := by omega
      by_cases h2 : (y.2 : Int) < (x.2 : Int)
      · simp [h1, h1', h2]
      · simp [h1, h1', h2]
  · rw [if_neg h, cmp_lt]
    have hne : x.1 ≠ y.1 := fun e => h ((cmp_eq _ _).2 e)
    simp [hne]
theorem swoP : SWO lessP := by
  have e : lessP = fun a b => decide (ltP a b) := by funext x y; exact lessP_iff x y
  rw [e]
  exact swo_of ltP_irr ltP_tr ltP_tri
theorem get_bang {α : Type} [Inhabited α] (l : List α) (i : Nat) (h : i < l.length) : l.toArray[i]! = l[i] := by simp [h]
theorem pairwise_of {α : Type} [Inhabited α] {lt : α → α → Bool} {d : Array α} (h : SortedIn lt 0 d.size d) : d.toList.Pairwise fun a b => lt b a = false := by
  rw [List.pairwise_iff_getElem]
  intro i j hi hj hij
  have := h i j (Nat.zero_le _) hij (by simpa using hj)
  simp only [Array.length_toList] at hi hj
  simpa [getElem!_pos, hi, hj] using this
theorem perm_of {α : Type} [Inhabited α] {d d' : Array α} (h : PermIn 0 d.size d d') : d'.toList.Perm d.toList := by
  obtain ⟨h1, _, h3⟩ := h
  have e1 : d'.extract 0 d.size = d' := by rw [← h1]; simp
  have e2 : d.extract 0 d.size = d := by simp
  rwa [e1, e2] at h3
/-- What is kept of a sorted row rises, and has the same. -/
theorem kept_mem (d : Array (List UInt8)) (x : List UInt8) : x ∈ Lib.compactUpTo d d.size ↔ x ∈ d.toList := by
  unfold Lib.compactUpTo
  rw [List.mem_map]
  constructor
  · rintro ⟨j, hj, rfl⟩
    have hj' := List.mem_range.1 (List.mem_filter.1 hj).1
    simp [hj']
  · intro hx
    obtain ⟨i, hi, rfl⟩ := List.getElem_of_mem hx
    have hi' : i < d.size := by simpa using hi
    have key : ∀ i, i < d.size → ∃ j, j ∈ (List.range d.size).filter (Lib.keeps d) ∧ d[j]! = d[i]! := by
      intro i
      induction i with
      | zero => intro h; exact ⟨0, by rw [List.mem_filter]; exact ⟨List.mem_range.2 h, by simp [Lib.keeps]⟩, rfl⟩
      | succ i ih =>
        intro h
        by_cases e : d[i + 1]! = d[i]!
        · obtain ⟨j, h1, h2⟩ := ih (by omega)
          exact ⟨j, h1, h2.trans e.symm⟩
        · exact ⟨i + 1, by rw [List.mem_filter]; exact ⟨List.mem_range.2 h, Lib.keeps_pos (by simpa using e)⟩, rfl⟩
    obtain ⟨j, h1, h2⟩ := key i hi'
    exact ⟨j, h1, by rw [h2]; simp [hi']⟩
theorem kept_rise (d : Array (List UInt8)) (hs : SortedIn ltS 0 d.size d) : Rise (Lib.compactUpTo d d.size) := by
  unfold Lib.compactUpTo Rise
  rw [List.pairwise_map]
  have h0 : ((List.range d.size).filter (Lib.keeps d)).Pairwise (· < ·) := List.Pairwise.filter _ List.pairwise_lt_range
  refine (List.pairwise_iff_forall_sublist.2 ?_)
  intro i j hij
  have hlt : i < j := by
    have := List.pairwise_iff_forall_sublist.1 h0 hij
    exact this
  have hj := hij.subset (show j ∈ [i, j] by simp)
  obtain ⟨hj1, hj2⟩ := List.mem_filter.1 hj
  have hjs := List.mem_range.1 hj1
  have hne : d[j]! ≠ d[j - 1]! := by
    unfold Lib.keeps at hj2
    have := of_decide_eq_true hj2
    rcases this with h | h
    · omega
    · exact h
  have nlt : ∀ a b, a ≤ b → b < d.size → ¬ d[b]! < d[a]! := by
    intro a b hab hb
    rcases Nat.lt_or_eq_of_le hab with h | h
    · have := hs a b (Nat.zero_le _) h hb
      rw [ltS_iff] at this
      simpa using this
    · subst h; exact List.lt_irrefl _
  have h1 := nlt i (j - 1) (by omega) (by omega)
  have h2 := nlt (j - 1) j (by omega) hjs
  have h3 : d[j - 1]! < d[j]! := by
    rcases lt_trich (d[j - 1]!) (d[j]!) with g | g | g
    · exact g
    · exact absurd g.symm hne
    · exact absurd g h2
  rcases lt_trich (d[i]!) (d[j - 1]!) with g | g | g
  · exact List.lt_trans g h3
  · rw [g]; exact h3
  · exact absurd g h1
theorem kept_set {l : List (List UInt8)} {d : Array (List UInt8)} (hp : d.toList.Perm l) (hs : SortedIn ltS 0 d.size d) : Lib.compactUpTo d d.size = setU l :=
  set_uniq (kept_rise d hs) fun x => (kept_mem d x).trans hp.mem_iff
theorem kept_len (d : Array (List UInt8)) : (Lib.compactUpTo d d.size).length ≤ d.size := by
  unfold Lib.compactUpTo
  rw [List.length_map]
  exact Nat.le_trans (List.length_filter_le _ _) (by simp)
/-- A sorted row of terms with their places. -/
theorem pos_set {l : List (List UInt8)} {d : Array Pl} (hp : d.toList.Perm (zipK l l.length)) (hs : SortedIn lessP 0 d.size d) : d.toList = posU l := by
  refine pos_sorted hp ((pairwise_of hs).imp ?_)
  intro a b h
  rw [lessP_iff] at h
  simpa using h
theorem pos_apart {l : List (List UInt8)} {d : Array Pl} (h : d.toList = posU l) (k : Nat) (h1 : 1 ≤ k) (h2 : k < d.size) : d[k]! ≠ d[k - 1]! := by
  intro e
  have hr := List.pairwise_iff_getElem.1 (posU_rise l) (k - 1) k (by rw [← h]; simp; omega) (by rw [← h]; simpa using h2) (by omega)
  have e1 : d[k]! = (posU l)[k]'(by rw [← h]; simpa using h2) := by simp [← h, h2]
  have e2 : d[k - 1]! = (posU l)[k - 1]'(by rw [← h]; simp; omega) := by simp [← h, show k - 1 < d.size by omega]
  rw [← e1, ← e2, e] at hr
  exact ltP_irr _ hr
end Go.Proofs.YtpnnebnjkinndaaDoor.TokW
