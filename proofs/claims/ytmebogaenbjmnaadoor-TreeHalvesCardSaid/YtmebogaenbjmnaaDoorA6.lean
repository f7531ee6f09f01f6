import Derived.Test.YtmebogaenbjmnaaDoorA5
namespace Go.Proofs.YtmebogaenbjmnaaDoor.ShaW
open Go.RowKit
open Sha
theorem ty30 : AggTy Tryd.prog 65 10 := ⟨by kernel_rfl, by kernel_rfl⟩
theorem ty28 : AggTy Tryd.prog 63 8 := ⟨by kernel_rfl, by kernel_rfl⟩
theorem ty47 : AggTy Tryd.prog 78 64 := ⟨by kernel_rfl, by kernel_rfl⟩
set_option maxHeartbeats 400000 in
theorem new_any (w : World) :
    Calls Tryd.prog 43 #[] w fun e w' => e = .returned (.agg (stc iv (.slice none 0 0) 0).toArray) ∧ Below w.heap.size w w' := by
  go_enter Tryd.func43, Tryd.ntmps43
  go_wp2
  exact bodyPost_ret (v := .agg (stc iv (.slice none 0 0) 0).toArray) (results_cellA rfl ty30 _ _ w.heap.size 65 (stc iv (.slice none 0 0) 0) rfl (At.new_ w _ 65 (stc iv (.slice none 0 0) 0) rfl) rfl) rfl ⟨rfl, (Below.refl _ _).alloc (Nat.le_refl _) _⟩
def okN (m : Nat) (n : Int) : Prop := 0 ≤ n ∧ n ≤ 1099511627776 ∧ (m : Int) = n % 64
set_option maxHeartbeats 1000000 in
theorem valid_any (s : St) (A : Option Addr) (m c : Nat) (n : Int) (w : World) (b : Bool) (_hm : m ≤ 9223372036854775807) (hok : b = true ↔ okN m n) :
    Calls Tryd.prog 52 #[.agg (stc s (.slice A m c) n).toArray] w fun e w' => e = .returned (.bool b) ∧ Below w.heap.size w w' := by
  have h0 : At (w.alloc (.cells (stc s (.slice A m c) n).toArray 65)) w.heap.size 65 (stc s (.slice A m c) n) := At.new_ w _ 65 _ rfl
  have hb0 : Below w.heap.size w (w.alloc (.cells (stc s (.slice A m c) n).toArray 65)) := (Below.refl _ _).alloc (Nat.le_refl _) _
  have c8 : (w.alloc (.cells (stc s (.slice A m c) n).toArray 65)).cell? ⟨w.heap.size, 8, none⟩ = some (.slice A m c) := (h0.cell 8).trans rfl
  have c9 : (w.alloc (.cells (stc s (.slice A m c) n).toArray 65)).cell? ⟨w.heap.size, 9, none⟩ = some (.int .i64 n) := (h0.cell 9).trans rfl
  clear h0
  have HK : Hid (b = true ↔ okN m n) := hok
  clear hok
  by_cases h1 : 0 ≤ n
  · by_cases h2 : n ≤ 1099511627776
    · by_cases h3 : (m : Int) = n % 64
      · have h3' : ((m : Int) == n % 64) = true := by simpa using h3
        have HH : Hid ((m : Int) = n % 64) := h3
        clear h3
        go_enter Tryd.func52, Tryd.ntmps52
        go_wp2
        go_ret
        exact ⟨by rw [HK.out.2 ⟨h1, h2, HH.out⟩]; rfl, hb0⟩
      · have h3' : ((m : Int) == n % 64) = false := by simpa using h3
        go_enter Tryd.func52, Tryd.ntmps52
        go_wp2
        go_ret
        exact ⟨by rw [show b = false by cases b; rfl; exact absurd (HK.out.1 rfl).2.2 h3]; rfl, hb0⟩
    · go_enter Tryd.func52, Tryd.ntmps52
      go_wp2
      go_ret
      exact ⟨by rw [show b = false by cases b; rfl; exact absurd (HK.out.1 rfl).2.1 (by omega)]; rfl, hb0⟩
  · go_enter Tryd.func52, Tryd.ntmps52
    go_wp2
    go_ret
    exact ⟨by rw [show b = false by cases b; rfl; exact absurd (HK.out.1 rfl).1 (by omega)]; rfl, hb0⟩
end Go.Proofs.YtmebogaenbjmnaaDoor.ShaW
