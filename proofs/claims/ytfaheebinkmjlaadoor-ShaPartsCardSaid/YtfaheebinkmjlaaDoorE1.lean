import Derived.Test.YtfaheebinkmjlaaDoorE2
namespace Go.Proofs.YtfaheebinkmjlaaDoor
open Go.RowKit
open Sha
theorem sha_size (bs : List UInt8) : (⟨(sha bs).toArray⟩ : ByteArray).size = 32 := by
  show (sha bs).toArray.size = 32
  rw [List.size_toArray, ← sha_blocks, textB_len]; rfl
set_option maxRecDepth 100000 in
set_option maxHeartbeats 2000000 in
theorem lawSums (B : Option Addr) (l d : Nat) (bs : List UInt8) (w : World) (hT : Tab w) (hl : bs.length = l) (hb : Sl w B (bcells bs)) (hld : l ≤ d) (hd63 : d ≤ 9223372036854775807) :
    Calls Tryd.prog 3 #[.slice B l d] w fun e w' => e = .returned (.bool true) ∧ Below w.heap.size w w' := by
  have hpos := hT.pos
  have HL : Hid (bs.length = l) := hl
  clear hl
  by_cases h5 : 5000 < l
  · go_enter Tryd.func3, Tryd.ntmps3
    go_wp2_with fail
    refine (knows_any _ hT).mono ?_
    rintro e w1 ⟨rfl, hb1⟩
    go_wp2_with fail
    go_ret
    exact ⟨rfl, hb1⟩
  · have o0 : (w.alloc (.cells #[] 5)).ownsRow w.heap.size 5 1 (.slice (some ⟨w.heap.size, 0, none⟩) 0 0) 0 [] := own_lit w w.heap.size 5 [] 0 rfl (Nat.le_refl _) (by omega)
    have h0 : Below w.heap.size w (w.alloc (.cells #[] 5)) := (Below.refl _ _).alloc (Nat.le_refl _) _
    go_enter Tryd.func3, Tryd.ntmps3
    go_wp2_with (at_builtin; refine wpList_app rfl (.tmp 8) (.tmp 9) 22 rfl bytesTy w.heap.size (.slice (some ⟨w.heap.size, 0, none⟩) 0 0) 0 [] rfl o0 B l d (bcells bs) rfl (by rw [bcells_len]; exact HL.out) (hb.below h0) (bcells_one _) (by omega) (by simp) ?_; intro v1 w1 hown1 hgr1 hbl1; have h1 := below_app h0 hgr1 o0 (Nat.le_refl _) (by simp); simp only [Nat.zero_add, List.nil_append] at hown1; have hs1 := h1.size; obtain ⟨A1, c1, rfl, hsl1, hlc1, _, hcm1, _⟩ := own_slice hown1)
    clear o0 h0 hown1 hgr1 hbl1
    have t1 := hT.below h1 hpos
    refine (sum_wide A1 l c1 bs _ t1 HL.out hsl1 (by omega) hlc1 (by unfold maxLen at hcm1; omega)).mono ?_
    rintro e w2 ⟨rfl, hb2⟩
    have h2 := h1.trans (hb2.mono hs1)
    have t2 := hT.below h2 hpos
    have HS : Hid ((⟨(sha bs).toArray⟩ : ByteArray).size = 32) := sha_size bs
    have s2 := hb.below h2
    clear hb2 hsl1
    go_wp2_with fail
    refine (refSum_any B l d bs _ HL.out s2 (by omega)).mono ?_
    rintro e w3 ⟨rfl, hb3⟩
    have h3 := h2.trans (hb3.mono h2.size)
    have t3 := hT.below h3 hpos
    clear hb3 s2 h1 h2 t1 t2
    obtain ⟨S, hS⟩ : ∃ S : ByteArray, S = ⟨(sha bs).toArray⟩ := ⟨_, rfl⟩
    rw [← hS]
    have hz : S.size = 32 := by rw [hS]; exact HS.out
    clear hS HS
    go_wp2_with fail
    refine (knows_any _ t3).mono ?_
    rintro e w4 ⟨rfl, hb4⟩
    go_wp2_with fail
    go_ret
    exact ⟨rfl, h3.trans (hb4.mono h3.size)⟩
end Go.Proofs.YtfaheebinkmjlaaDoor
