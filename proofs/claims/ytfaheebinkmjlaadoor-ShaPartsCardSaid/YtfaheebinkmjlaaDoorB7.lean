import Derived.Test.YtfaheebinkmjlaaDoorB6
namespace Go.Proofs.YtfaheebinkmjlaaDoor
open Go.RowKit
open Sha
set_option maxRecDepth 100000 in
set_option maxHeartbeats 2000000 in
theorem lawBack (d s : ByteArray) (w : World) (hT : Tab w) (hd : d.size ≤ 9223372036854775807) (hs : s.size ≤ 9223372036854775807) :
    Calls Tryd.prog 7 #[.string d, .string s] w fun e w' => e = .returned (.bool true) ∧ Below w.heap.size w w' := by
  by_cases h1 : 1000 < d.size
  · go_enter Tryd.func7, Tryd.ntmps7
    go_wp2_with fail
    refine (knows_any _ hT).mono ?_
    rintro e w1 ⟨rfl, hb1⟩
    go_wp2_with fail
    go_ret
    exact ⟨rfl, hb1⟩
  · by_cases h2 : 1000 < s.size
    · go_enter Tryd.func7, Tryd.ntmps7
      go_wp2_with fail
      refine (knows_any _ hT).mono ?_
      rintro e w1 ⟨rfl, hb1⟩
      go_wp2_with fail
      go_ret
      exact ⟨rfl, hb1⟩
    · have hpos := hT.pos
      have hsz : (ByteArray.mk (hexL d.data.toList).toArray).size ≤ 1099511627776 := by
        show (hexL d.data.toList).toArray.size ≤ _
        rw [List.size_toArray, hexL_len, Array.length_toList]
        have : d.data.size = d.size := rfl
        omega
      go_enter Tryd.func7, Tryd.ntmps7
      go_wp2_with fail
      refine (hex_any d _ (by omega)).mono ?_
      rintro e w1 ⟨rfl, hb1⟩
      have t1 := hT.below hb1 hpos
      go_wp2_with fail
      refine (fromHex_any _ _ hsz).mono ?_
      rintro e w2 ⟨str, code, rfl, hf, hb2⟩
      have t2 := t1.below hb2 t1.pos
      have hsd : str = d.data.toList ∧ code = 0 := by
        rcases hf with ⟨_, _, h3, h4⟩ | ⟨hno, _⟩
        · have := dec_hex d.data.toList
          exact ⟨h3.trans this, h4⟩
        · exact absurd ⟨by rw [hexL_len]; omega, ok_hex _⟩ hno
      obtain ⟨hsd, rfl⟩ := hsd
      have hx : (str == d.toList) = true := by rw [ByteArray.toList_eq]; simp [hsd]
      clear hsd hf hsz
      go_wp2_with fail
      refine (fromHex_any s _ (by omega)).mono ?_
      rintro e w3 ⟨str2, code2, rfl, hf, hb3⟩
      have t3 := t2.below hb3 t2.pos
      have s1 := hb1.size
      have s2 := hb2.size
      have b3 := (hb1.trans (hb2.mono (by omega))).trans (hb3.mono (by omega))
      clear hb1 hb2 hb3 t1 t2 s1 s2
      rcases hf with ⟨he, hok, h3, rfl⟩ | ⟨_, rfl, rfl⟩
      · have hl2 : (ByteArray.mk str2.toArray).size ≤ 1099511627776 := by
          show str2.toArray.size ≤ _
          rw [List.size_toArray, h3, decB_len, Array.length_toList]
          have : s.data.size = s.size := rfl
          omega
        have hy : (hexL str2 == s.toList) = true := by rw [ByteArray.toList_eq, h3, hex_dec _ he hok]; simp
        clear he hok h3
        go_wp2_with fail
        refine (hex_any _ _ hl2).mono ?_
        rintro e w4 ⟨rfl, hb4⟩
        have t4 := t3.below hb4 t3.pos
        clear hl2
        go_wp2_with fail
        refine (knows_any _ t4).mono ?_
        rintro e w5 ⟨rfl, hb5⟩
        go_wp2_with fail
        go_ret
        exact ⟨rfl, (b3.trans (hb4.mono b3.size)).trans (hb5.mono (Nat.le_trans b3.size hb4.size))⟩
      · go_wp2_with fail
        refine (knows_any _ t3).mono ?_
        rintro e w5 ⟨rfl, hb5⟩
        go_wp2_with fail
        go_ret
        exact ⟨rfl, b3.trans (hb5.mono b3.size)⟩
end Go.Proofs.YtfaheebinkmjlaaDoor
