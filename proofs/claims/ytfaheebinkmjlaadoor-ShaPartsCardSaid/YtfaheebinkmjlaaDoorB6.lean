import Derived.Test.YtfaheebinkmjlaaDoorB5
namespace Go.Proofs.YtfaheebinkmjlaaDoor
open Go.RowKit
open Sha
theorem FH_det {l a b : List UInt8} {c c' : Int} (h : FH l a c) (h' : FH l b c') : a = b ∧ c = c' := by
  rcases h with ⟨h1, h2, rfl, rfl⟩ | ⟨h1, rfl, rfl⟩ <;> rcases h' with ⟨k1, k2, rfl, rfl⟩ | ⟨k1, rfl, rfl⟩
  · exact ⟨rfl, rfl⟩
  · exact absurd ⟨h1, h2⟩ k1
  · exact absurd ⟨k1, k2⟩ h1
  · exact ⟨rfl, rfl⟩
theorem FH_code {l a : List UInt8} {c : Int} (h : FH l a c) : c = 0 ∨ c = 2 := by
  rcases h with ⟨_, _, _, rfl⟩ | ⟨_, _, rfl⟩ <;> simp
set_option maxRecDepth 100000 in
set_option maxHeartbeats 2000000 in
theorem lawHex (d s : ByteArray) (w : World) (hT : Tab w) (hd : d.size ≤ 9223372036854775807) (hs : s.size ≤ 9223372036854775807) :
    Calls Tryd.prog 6 #[.string d, .string s] w fun e w' => e = .returned (.bool true) ∧ Below w.heap.size w w' := by
  by_cases h1 : 1000 < d.size
  · go_enter Tryd.func6, Tryd.ntmps6
    go_wp2_with fail
    refine (knows_any _ hT).mono ?_
    rintro e w1 ⟨rfl, hb1⟩
    go_wp2_with fail
    go_ret
    exact ⟨rfl, hb1⟩
  · by_cases h2 : 1000 < s.size
    · go_enter Tryd.func6, Tryd.ntmps6
      go_wp2_with fail
      refine (knows_any _ hT).mono ?_
      rintro e w1 ⟨rfl, hb1⟩
      go_wp2_with fail
      go_ret
      exact ⟨rfl, hb1⟩
    · have hpos := hT.pos
      go_enter Tryd.func6, Tryd.ntmps6
      go_wp2_with fail
      refine (fromHex_any s _ (by omega)).mono ?_
      rintro e w1 ⟨str, code, rfl, hf, hb1⟩
      have t1 := hT.below hb1 hpos
      have HF : Hid (FH s.data.toList str code) := hf
      clear hf
      go_wp2_with fail
      refine (refFromHex_any s _ (by omega)).mono ?_
      rintro e w2 ⟨str2, code2, ok, rfl, hf2, hok, hb2⟩
      have t2 := t1.below hb2 t1.pos
      obtain ⟨rfl, rfl⟩ := FH_det HF.out hf2
      clear hf2
      go_wp2_with fail
      refine (hex_any d _ (by omega)).mono ?_
      rintro e w3 ⟨rfl, hb3⟩
      have t3 := t2.below hb3 t2.pos
      go_wp2_with fail
      refine (refHex_any d _ (by omega)).mono ?_
      rintro e w4 ⟨rfl, hb4⟩
      have t4 := t3.below hb4 t3.pos
      have s1 := hb1.size
      have s2 := hb2.size
      have s3 := hb3.size
      have b4 := ((hb1.trans (hb2.mono (by omega))).trans (hb3.mono (by omega))).trans (hb4.mono (by omega))
      clear hb1 hb2 hb3 hb4 t1 t2 t3 s1 s2 s3
      rcases FH_code HF.out with rfl | rfl
      · have hok' : ok = true := hok.2 rfl
        subst hok'
        clear hok
        go_wp2_with fail
        refine (knows_any _ t4).mono ?_
        rintro e w5 ⟨rfl, hb5⟩
        go_wp2_with fail
        go_ret
        exact ⟨rfl, b4.trans (hb5.mono b4.size)⟩
      · have hok' : ok = false := by cases ok; rfl; exact absurd (hok.1 rfl) (by omega)
        subst hok'
        clear hok
        go_wp2_with fail
        refine (knows_any _ t4).mono ?_
        rintro e w5 ⟨rfl, hb5⟩
        go_wp2_with fail
        go_ret
        exact ⟨rfl, b4.trans (hb5.mono b4.size)⟩
end Go.Proofs.YtfaheebinkmjlaaDoor
