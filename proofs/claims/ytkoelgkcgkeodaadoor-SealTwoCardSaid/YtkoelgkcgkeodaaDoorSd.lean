/- bytes: Equal, Clone. -/
import Derived.Test.YtkoelgkcgkeodaaDoorSa
namespace Go.Proofs.YtkoelgkcgkeodaaDoor.SealW
open Go.RowKit
theorem mk_inj {a b : List UInt8} : ((⟨a.toArray⟩ : ByteArray) = ⟨b.toArray⟩) ↔ a = b :=
  ⟨fun h => by simpa using congrArg (fun x : ByteArray => x.data.toList) h, fun h => by rw [h]⟩
theorem beq_str (X Y : ByteArray) : (X.toList == Y.toList) = decide (X = Y) := by
  rw [ByteArray.toList_eq, ByteArray.toList_eq]
  by_cases h : X = Y
  · simp [h]
  · have h2 : ¬ X.data = Y.data := fun h' => h (by cases X; cases Y; simpa using h')
    simp [h, h2]
theorem beq_yes {X Y : ByteArray} (h : X = Y) : (X.toList == Y.toList) = true := by rw [beq_str]; simpa using h
theorem beq_no {X Y : ByteArray} (h : X ≠ Y) : (X.toList == Y.toList) = false := by rw [beq_str]; simpa using h
theorem equal_any (A : Option Addr) (n c : Nat) (xs : List UInt8) (B : Option Addr) (l d : Nat) (ys : List UInt8) (w : World) (hn : xs.length = n) (hA : Sl w A (bcells xs)) (hl : ys.length = l) (hB : Sl w B (bcells ys)) :
    Calls Tryd.prog 29 #[.slice A n c, .slice B l d] w fun e w' => e = .returned (.bool (decide (xs = ys))) ∧ w = w' := by
  have e1 := run_str (P := Tryd.prog) w 22 9 5 underBytes underU8 underStr A xs n c hn hA
  have e2 := run_str (P := Tryd.prog) w 22 9 5 underBytes underU8 underStr B ys l d hl hB
  have HD : Hid (decide ((⟨xs.toArray⟩ : ByteArray) = ⟨ys.toArray⟩) = decide (xs = ys)) := decide_eq_decide.2 mk_inj
  obtain ⟨X, hX⟩ : ∃ X : ByteArray, X = ⟨xs.toArray⟩ := ⟨_, rfl⟩
  obtain ⟨Y, hY⟩ : ∃ Y : ByteArray, Y = ⟨ys.toArray⟩ := ⟨_, rfl⟩
  rw [← hX] at e1
  rw [← hY] at e2
  rw [← hX, ← hY] at HD
  clear hX hY hn hl hA hB
  go_enter Tryd.func29, Tryd.ntmps29
  go_wp2_with fail
  go_ret
  exact ⟨by rw [← HD.out, ← beq_str]; rfl, rfl⟩
theorem clone_any (A : Option Addr) (n c : Nat) (xs : List UInt8) (w : World) (hn : xs.length = n) (hA : Sl w A (bcells xs)) (h47 : n ≤ 140737488355328) :
    Calls Tryd.prog 28 #[.slice A n c] w fun e w' => ∃ A' c', e = .returned (.slice A' n c') ∧ Sl w' A' (bcells xs) ∧ n ≤ c' ∧ c' ≤ maxLen ∧ (∀ b o s, A' = some ⟨b, o, s⟩ → w.heap.size ≤ b) ∧ Below w.heap.size w w' := by
  rcases A with _ | ad
  · have hm : xs = [] := by
      rcases Classical.em (xs = []) with h' | h'
      · exact h'
      · obtain ⟨b, o, e, _⟩ := hA (by simpa [bcells] using h'); cases e
    subst hm
    obtain rfl : n = 0 := by simpa using hn.symm
    have en := fun w : World => Lib.run_eql_slice_nil (P := Tryd.prog) w 22 5 none 0 c 0 0 underBytes
    go_enter Tryd.func28, Tryd.ntmps28
    go_wp2_with fail
    go_ret
    exact ⟨none, 0, rfl, Sl.nil, Nat.le_refl _, by simp [maxLen], (fun _ _ _ h => by cases h), Below.refl _ _⟩
  · have HN : Hid (xs.length = n) := hn
    have h0 : Below w.heap.size w (w.alloc (.cells #[] 5)) := (Below.refl _ _).alloc (Nat.le_refl _) _
    have o0 := own_lit w w.heap.size 5 [] 0 rfl (Nat.le_refl _) (by omega)
    clear hn
    go_enter Tryd.func28, Tryd.ntmps28
    have en := fun w : World => Lib.run_eql_slice_nil (P := Tryd.prog) w 22 5 (some ad) n c 0 0 underBytes
    go_wp2_with (refine wpList_app rfl (.tmp 5) (.tmp 6) 22 rfl bytesTy w.heap.size (.slice (some ⟨w.heap.size, 0, none⟩) 0 0) 0 [] rfl o0 (some ad) n c (bcells xs) rfl (by rw [bcells_len]; exact HN.out) (hA.below h0) (bcells_one _) (by omega) h0.size ?_; intro v1 w1 hown1 hgr1 hbl1)
    rw [Nat.zero_add, List.nil_append] at hown1
    have hb1 := below_app h0 hgr1 o0 (Nat.le_refl _) h0.size
    obtain ⟨A', c', rfl, hsl, hc', _, hm', ha'⟩ := own_slice hown1
    go_ret
    exact ⟨A', c', rfl, hsl, hc', hm', ha', hb1⟩
end Go.Proofs.YtkoelgkcgkeodaaDoor.SealW
