/- Lists that rise in an order: one for what is in them; what is left of a sorted list; terms with their places. Nothing of the dump. -/
import Derived.Test.YtpnnebnjkinndaaDoorTt
import Derived.Sort.Statements
import Derived.Lib.SlicesCompact
namespace Go.Proofs.YtpnnebnjkinndaaDoor.TokW
open UtfW
/-- What rises and has just these is one list. -/
theorem uniq_g {α : Type} {lt : α → α → Prop} (irr : ∀ a, ¬ lt a a) (tr : ∀ a b c, lt a b → lt b c → lt a c) (tri : ∀ a b, lt a b ∨ a = b ∨ lt b a) : ∀ (a b : List α), a.Pairwise lt → b.Pairwise lt → (∀ x, x ∈ a ↔ x ∈ b) → a = b
  | [], [], _, _, _ => rfl
  | [], y :: ys, _, _, h => absurd ((h y).2 (by simp)) (by simp)
  | x :: xs, [], _, _, h => absurd ((h x).1 (by simp)) (by simp)
  | x :: xs, y :: ys, ha, hb, h => by
    have ha' := List.pairwise_cons.1 ha
    have hb' := List.pairwise_cons.1 hb
    have hxy : x = y := by
      rcases tri x y with h1 | h1 | h1
      · rcases List.mem_cons.1 ((h x).1 (by simp)) with h2 | h2
        · exact h2
        · exact absurd (tr _ _ _ h1 (hb'.1 x h2)) (irr x)
      · exact h1
      · rcases List.mem_cons.1 ((h y).2 (by simp)) with h2 | h2
        · exact h2.symm
        · exact absurd (tr _ _ _ h1 (ha'.1 y h2)) (irr y)
    subst hxy
    congr 1
    refine uniq_g irr tr tri xs ys ha'.2 hb'.2 fun z => ⟨fun hz => ?_, fun hz => ?_⟩
    · rcases List.mem_cons.1 ((h z).1 (by simp [hz])) with h2 | h2
      · subst h2; exact absurd (ha'.1 z hz) (irr z)
      · exact h2
    · rcases List.mem_cons.1 ((h z).2 (by simp [hz])) with h2 | h2
      · subst h2; exact absurd (hb'.1 z hz) (irr z)
      · exact h2
/-- Terms with their places, in order. -/
abbrev Pl := List UInt8 × Nat
def ltP (a b : Pl) : Prop := a.1 < b.1 ∨ (a.1 = b.1 ∧ a.2 < b.2)
theorem ltP_irr (a : Pl) : ¬ ltP a a := by
  rintro (h | ⟨_, h⟩)
  · exact List.lt_irrefl _ h
  · omega
theorem ltP_tr (a b c : Pl) : ltP a b → ltP b c → ltP a c := by
  rintro (h | ⟨h, h'⟩) (g | ⟨g, g'⟩)
  · exact .inl (List.lt_trans h g)
  · exact .inl (g ▸ h)
  · exact .inl (h ▸ g)
  · exact .inr ⟨h.trans g, by omega⟩
theorem ltP_tri (a b : Pl) : ltP a b ∨ a = b ∨ ltP b a := by
  rcases lt_trich a.1 b.1 with h | h | h
  · exact .inl (.inl h)
  · rcases Nat.lt_trichotomy a.2 b.2 with g | g | g
    · exact .inl (.inr ⟨h, g⟩)
    · exact .inr (.inl (Prod.ext h g))
    · exact .inr (.inr (.inr ⟨h.symm, g⟩))
  · exact .inr (.inr (.inl h))
theorem placesU_rise (l : List (List UInt8)) (t : List UInt8) : (placesU l t).Pairwise (· < ·) := by
  unfold placesU
  exact List.Pairwise.filter _ List.pairwise_lt_range
theorem placesU_mem {l : List (List UInt8)} {t : List UInt8} {i : Nat} : i ∈ placesU l t ↔ i < l.length ∧ l.getD i [] = t := by
  unfold placesU
  rw [List.mem_filter, List.mem_range]
  simp
theorem posU_rise (l : List (List UInt8)) : (posU l).Pairwise ltP := by
  unfold posU
  have h : ∀ s : List (List UInt8), Rise s → (s.flatMap fun t => (placesU l t).map fun i => (t, i)).Pairwise ltP := by
    intro s
    induction s with
    | nil => intro _; exact List.Pairwise.nil
    | cons t ts ih =>
      intro hs
      have hs' := List.pairwise_cons.1 hs
      rw [List.flatMap_cons]
      refine List.pairwise_append.2 ⟨?_, ih hs'.2, ?_⟩
      · rw [List.pairwise_map]
        exact (placesU_rise l t).imp fun h => .inr ⟨rfl, h⟩
      · intro a ha b hb
        obtain ⟨i, _, rfl⟩ := List.mem_map.1 ha
        obtain ⟨u, hu, hb⟩ := List.mem_flatMap.1 hb
        obtain ⟨j, _, rfl⟩ := List.mem_map.1 hb
        exact .inl (hs'.1 u hu)
  exact h _ (set_rise l)
theorem posU_mem {l : List (List UInt8)} {p : Pl} : p ∈ posU l ↔ p.2 < l.length ∧ l.getD p.2 [] = p.1 := by
  unfold posU
  rw [List.mem_flatMap]
  constructor
  · rintro ⟨t, _, h⟩
    obtain ⟨i, hi, rfl⟩ := List.mem_map.1 h
    exact placesU_mem.1 hi
  · rintro ⟨h1, h2⟩
    refine ⟨p.1, ?_, List.mem_map.2 ⟨p.2, placesU_mem.2 ⟨h1, h2⟩, rfl⟩⟩
    rw [set_mem, ← h2]
    simp [List.getD, h1]
/-- Each term with its place, as they come. -/
def zipK (l : List (List UInt8)) (k : Nat) : List Pl := (List.range k).map fun i => (l.getD i [], i)
theorem zipK_succ (l : List (List UInt8)) (k : Nat) : zipK l (k + 1) = zipK l k ++ [(l.getD k [], k)] := by
  unfold zipK; rw [List.range_succ, List.map_append]; rfl
theorem zipK_len (l : List (List UInt8)) (k : Nat) : (zipK l k).length = k := by simp [zipK]
theorem zipK_mem {l : List (List UInt8)} {p : Pl} : p ∈ zipK l l.length ↔ p.2 < l.length ∧ l.getD p.2 [] = p.1 := by
  unfold zipK
  rw [List.mem_map]
  constructor
  · rintro ⟨i, hi, rfl⟩; exact ⟨List.mem_range.1 hi, rfl⟩
  · rintro ⟨h1, h2⟩; exact ⟨p.2, List.mem_range.2 h1, Prod.ext h2 rfl⟩
theorem zipK_nodup (l : List (List UInt8)) (k : Nat) : (zipK l k).Nodup := by
  unfold zipK
  rw [List.nodup_iff_pairwise_ne, List.pairwise_map]
  exact List.pairwise_lt_range.imp fun h e => by have := congrArg Prod.snd e; simp at this; omega
theorem posU_nodup (l : List (List UInt8)) : (posU l).Nodup := by
  rw [List.nodup_iff_pairwise_ne]
  refine (posU_rise l).imp ?_
  intro a b h e
  subst e
  exact ltP_irr _ h
theorem posU_len (l : List (List UInt8)) : (posU l).length = l.length := by
  have : (posU l).Perm (zipK l l.length) := by
    refine (List.perm_ext_iff_of_nodup (posU_nodup l) (zipK_nodup l _)).2 fun p => ?_
    rw [posU_mem, zipK_mem]
  rw [this.length_eq, zipK_len]
/-- A sorted list of them. -/
theorem pos_sorted {l : List (List UInt8)} {d : List Pl} (hp : d.Perm (zipK l l.length)) (hs : d.Pairwise fun a b => ¬ ltP b a) : d = posU l := by
  refine uniq_g ltP_irr ltP_tr ltP_tri d _ ?_ (posU_rise l) fun x => ?_
  · have hn : d.Nodup := hp.nodup_iff.2 (zipK_nodup l _)
    exact List.Pairwise.imp₂ (fun a b h1 h2 => by
      rcases ltP_tri a b with h | h | h
      · exact h
      · exact absurd h h2
      · exact absurd h h1) hs hn
  · rw [hp.mem_iff, zipK_mem, posU_mem]
/-- What is left of a list in order, each run of equal ones once. -/
def runs : List (List UInt8) → List (List UInt8)
  | [] => []
  | [x] => [x]
  | x :: y :: r => if x = y then runs (y :: r) else x :: runs (y :: r)
theorem runs_mem : ∀ (l : List (List UInt8)) (z : List UInt8), z ∈ runs l ↔ z ∈ l
  | [], z => Iff.rfl
  | [x], z => Iff.rfl
  | x :: y :: r, z => by
    unfold runs
    split
    · rename_i h; subst h
      rw [runs_mem (x :: r)]; simp
    · rw [List.mem_cons, runs_mem (y :: r)]; simp only [List.mem_cons]
theorem runs_rise : ∀ (l : List (List UInt8)), l.Pairwise (fun a b => ¬ b < a) → Rise (runs l)
  | [], _ => List.Pairwise.nil
  | [x], _ => by simp [runs, Rise]
  | x :: y :: r, h => by
    have h' := List.pairwise_cons.1 h
    unfold runs
    split
    · exact runs_rise (y :: r) h'.2
    · rename_i hne
      refine List.pairwise_cons.2 ⟨fun z hz => ?_, runs_rise (y :: r) h'.2⟩
      have hz' := (runs_mem _ z).1 hz
      have h1 := h'.1 z hz'
      have hy := h'.1 y (by simp)
      rcases lt_trich x z with g | g | g
      · exact g
      · subst g
        rcases List.mem_cons.1 hz' with e | hm
        · exact absurd e hne
        · have h2 := (List.pairwise_cons.1 h'.2).1 x hm
          rcases lt_trich x y with g | g | g
          · exact absurd g h2
          · exact absurd g hne
          · exact absurd g hy
      · exact absurd g h1
theorem runs_set {l s : List (List UInt8)} (hp : s.Perm l) (hs : s.Pairwise fun a b => ¬ b < a) : runs s = setU l :=
  set_uniq (runs_rise s hs) fun x => (runs_mem s x).trans hp.mem_iff
end Go.Proofs.YtpnnebnjkinndaaDoor.TokW
