/- bytes: Equal. -/
import Derived.Test.YtmebogaenbjmnaaDoorSa
namespace Go.Proofs.YtmebogaenbjmnaaDoor.SealW
open Go.RowKit
theorem mk_inj {a b : List UInt8} : ((⟨a.toArray⟩ : ByteArray) = ⟨b.toArray⟩) ↔ a = b :=
  ⟨fun h => by simpa using congrArg (fun x : ByteArray => x.data.toList) h, fun h => by rw [h]⟩
theorem beq_str (X Y : ByteArray) : (X.toList == Y.toList) = decide (X = Y) := by
  rw [ByteArray.toList_eq, ByteArray.toList_eq]
  by_cases h : X = Y
  · simp [h]
  · have h2 : ¬ X.data = Y.data := fun h' => h (by cases X; cases Y; simpa using h')
    simp [h, h2]
theorem beq_yes {X Y : ByteArray} (h : X = Y) : (X.toList == Y.toList) = true := by rw [beq_str]; simpa using h
theorem beq_no {X Y : ByteArray} (h : X ≠ Y) : (X.toList == Y.toList) = false := by rw [beq_str]; simpa using h
theorem equal_any (A : Option Addr) (n c : Nat) (xs : List UInt8) (B : Option Addr) (l d : Nat) (ys : List UInt8) (w : World) (hn : xs.length = n) (hA : Sl w A (bcells xs)) (hl : ys.length = l) (hB : Sl w B (bcells ys)) :
    Calls Tryd.prog 40 #[.slice A n c, .slice B l d] w fun e w' => e = .returned (.bool (decide (xs = ys))) ∧ w = w' := by
  have e1 := run_str (P := Tryd.prog) w 49 9 5 underBytes underU8 underStr A xs n c hn hA
  have e2 := run_str (P := Tryd.prog) w 49 9 5 underBytes underU8 underStr B ys l d hl hB
  have HD : Hid (decide ((⟨xs.toArray⟩ : ByteArray) = ⟨ys.toArray⟩) = decide (xs = ys)) := decide_eq_decide.2 mk_inj
  obtain ⟨X, hX⟩ : ∃ X : ByteArray, X = ⟨xs.toArray⟩ := ⟨_, rfl⟩
  obtain ⟨Y, hY⟩ : ∃ Y : ByteArray, Y = ⟨ys.toArray⟩ := ⟨_, rfl⟩
  rw [← hX] at e1
  rw [← hY] at e2
  rw [← hX, ← hY] at HD
  clear hX hY hn hl hA hB
  go_enter Tryd.func40, Tryd.ntmps40
  go_wp2_with fail
  go_ret
  exact ⟨by rw [← HD.out, ← beq_str]; rfl, rfl⟩
end Go.Proofs.YtmebogaenbjmnaaDoor.SealW
