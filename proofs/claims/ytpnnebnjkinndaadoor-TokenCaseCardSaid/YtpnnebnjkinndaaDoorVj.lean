/- token: what the law knows. -/
import Derived.Test.YtpnnebnjkinndaaDoorVi
import Derived.Lib.SlBytesConst
namespace Go.Proofs.YtpnnebnjkinndaaDoor.TokW
open Go.RowKit UtfW Go.Sort Go.Shelf
def hayB : List UInt8 := [72, 97, 121, 44, 32, 104, 97, 121, 45, 87, 65, 73, 78, 32, 55]
def hayT : List (List UInt8) := [[104, 97, 121], [104, 97, 121], [119, 97, 105, 110], [55]]
def haySet : List (List UInt8) := [[55], [104, 97, 121], [119, 97, 105, 110]]
theorem hay_terms : termsU hayB = hayT := by decide +kernel
theorem hay_set : setU hayT = haySet := by decide +kernel
theorem hay_places : placesU hayT [104, 97, 121] = [0, 1] := by decide +kernel
theorem hay_pos : (posU hayT).length = 4 := by decide +kernel
theorem hay_yes : rightT [119, 97, 105, 110] = true := by decide +kernel
theorem hay_no : rightT [87, 97, 105, 110] = false := by decide +kernel
theorem great_no (A : Option Addr) (n c : Nat) (w : World) (h : ¬ 2000 < n) : Calls Tryd.prog 9 #[.slice A n c] w fun e w' => e = .returned (.bool false) ∧ w = w' := by
  have hd : decide ((2000 : Int) < (n : Int)) = false := decide_eq_false (by omega)
  go_enter Tryd.func9, Tryd.ntmps9
  go_wp2_with fail
  go_ret
  exact ⟨by simp, rfl⟩
theorem great_yes (A : Option Addr) (n c : Nat) (w : World) (h : 2000 < n) : Calls Tryd.prog 9 #[.slice A n c] w fun e w' => e = .returned (.bool true) ∧ w = w' := by
  have hd : decide ((2000 : Int) < (n : Int)) = true := decide_eq_true (by omega)
  go_enter Tryd.func9, Tryd.ntmps9
  go_wp2_with fail
  go_ret
  exact ⟨by simp, rfl⟩
theorem new_texts (W : World) (cs : Array Value) (l : List (List UInt8)) (h : cs.toList = l.map encStr) : Sl (W.alloc (.cells cs 9)) (some ⟨W.heap.size, 0, none⟩) (l.map encStr) := by
  have e : cs = (l.map encStr).toArray := by rw [← h]
  rw [e]
  exact Sl.of_at_all (At.new_ W _ 9 _ rfl)
set_option maxRecDepth 1000000 in
set_option maxHeartbeats 2000000 in
theorem knows_any (w : World) (hT : Tabs w) : Calls Tryd.prog 10 #[] w fun e w' => e = .returned (.bool true) ∧ Below w.heap.size w w' := by
  have HT := Lib.hid (fun W (hb : Below w.heap.size w W) => hT.below hb hT.pos)
  clear hT
  have s0 : Sl (w.alloc (.cells #[.int .u8 72, .int .u8 97, .int .u8 121, .int .u8 44, .int .u8 32, .int .u8 104, .int .u8 97, .int .u8 121, .int .u8 45, .int .u8 87, .int .u8 65, .int .u8 73, .int .u8 78, .int .u8 32, .int .u8 55] 5 (15, 16))) (some ⟨w.heap.size, 0, none⟩) (bcells hayB) := fun _ => ⟨w.heap.size, 0, rfl, fun j u hu => by
    rw [Nat.zero_add, World.cell?_alloc_mark]
    exact (by simpa using hu : (bcells hayB).toArray[j]? = some u)⟩
  have b0 : Below w.heap.size w (w.alloc (.cells #[.int .u8 72, .int .u8 97, .int .u8 121, .int .u8 44, .int .u8 32, .int .u8 104, .int .u8 97, .int .u8 121, .int .u8 45, .int .u8 87, .int .u8 65, .int .u8 73, .int .u8 78, .int .u8 32, .int .u8 55] 5 (15, 16))) := (Below.refl _ _).alloc (Nat.le_refl _) _
  have kc := Lib.run_convert_bytes_const (P := Tryd.prog) w 22 5 #[.int .u8 72, .int .u8 97, .int .u8 121, .int .u8 44, .int .u8 32, .int .u8 104, .int .u8 97, .int .u8 121, .int .u8 45, .int .u8 87, .int .u8 65, .int .u8 73, .int .u8 78, .int .u8 32, .int .u8 55] 15 15 underBytes underU8
  generalize hW0 : w.alloc (.cells #[.int .u8 72, .int .u8 97, .int .u8 121, .int .u8 44, .int .u8 32, .int .u8 104, .int .u8 97, .int .u8 121, .int .u8 45, .int .u8 87, .int .u8 65, .int .u8 73, .int .u8 78, .int .u8 32, .int .u8 55] 5 (15, 16)) = W0 at s0 b0
  have HW0 := Lib.hid hW0
  clear hW0
  go_enter Tryd.func10, Tryd.ntmps10
  go_wp2_with fail
  clear kc
  rw [HW0.out]
  refine (terms_any (some ⟨w.heap.size, 0, none⟩) 15 15 hayB _ (HT.out _ b0) rfl s0 (by omega) (by omega) (by omega)).mono ?_
  rintro e w1 ⟨v1, ss1, rfl, hss1, hown1, b1⟩
  rw [hay_terms] at hss1
  obtain rfl : ss1 = ofBytes hayT := sbytes_inj (by rw [hss1, sbytes_of])
  have bb1 := b0.trans (b1.mono b0.size)
  have s1 := s0.below b1
  obtain ⟨A1, c1, rfl, t1, _, _, _⟩ := hown1.slice
  rw [show (ofBytes hayT).length = 4 from rfl]
  have n1 := new_texts w1 #[.string ⟨#[104, 97, 121]⟩, .string ⟨#[104, 97, 121]⟩, .string ⟨#[119, 97, 105, 110]⟩, .string ⟨#[55]⟩] hayT rfl
  have t1' := t1.alloc (.cells #[.string ⟨#[104, 97, 121]⟩, .string ⟨#[104, 97, 121]⟩, .string ⟨#[119, 97, 105, 110]⟩, .string ⟨#[55]⟩] 9)
  have s1' := s1.alloc (.cells #[.string ⟨#[104, 97, 121]⟩, .string ⟨#[104, 97, 121]⟩, .string ⟨#[119, 97, 105, 110]⟩, .string ⟨#[55]⟩] 9)
  have bb1' := bb1.alloc bb1.size (.cells #[.string ⟨#[104, 97, 121]⟩, .string ⟨#[104, 97, 121]⟩, .string ⟨#[119, 97, 105, 110]⟩, .string ⟨#[55]⟩] 9)
  rw [← scells_of] at n1
  clear hss1 hown1 b1 t1 s1 bb1 s0 b0
  go_wp2_with fail
  refine (same_any A1 _ 4 c1 4 (ofBytes hayT) _ rfl t1' n1 (by omega)).mono ?_
  rintro e w2 ⟨rfl, b2⟩
  have bb2 := bb1'.trans (b2.mono bb1'.size)
  have s2 := s1'.below b2
  clear n1 t1' s1' bb1' b2
  go_wp2_with fail
  refine (set_any (some ⟨w.heap.size, 0, none⟩) 15 15 hayB _ (HT.out _ bb2) rfl s2 (by omega) (by omega) (by omega)).mono ?_
  rintro e w3 ⟨v3, ss3, rfl, hss3, hown3, b3⟩
  rw [hay_terms, hay_set] at hss3
  obtain rfl : ss3 = ofBytes haySet := sbytes_inj (by rw [hss3, sbytes_of])
  have bb3 := bb2.trans (b3.mono bb2.size)
  have s3 := s2.below b3
  obtain ⟨A3, c3, rfl, t3, _, _, _⟩ := hown3.slice
  rw [show (ofBytes haySet).length = 3 from rfl]
  have n3 := new_texts w3 #[.string ⟨#[55]⟩, .string ⟨#[104, 97, 121]⟩, .string ⟨#[119, 97, 105, 110]⟩] haySet rfl
  have t3' := t3.alloc (.cells #[.string ⟨#[55]⟩, .string ⟨#[104, 97, 121]⟩, .string ⟨#[119, 97, 105, 110]⟩] 9)
  have s3' := s3.alloc (.cells #[.string ⟨#[55]⟩, .string ⟨#[104, 97, 121]⟩, .string ⟨#[119, 97, 105, 110]⟩] 9)
  have bb3' := bb3.alloc bb3.size (.cells #[.string ⟨#[55]⟩, .string ⟨#[104, 97, 121]⟩, .string ⟨#[119, 97, 105, 110]⟩] 9)
  rw [← scells_of] at n3
  clear hss3 hown3 b3 t3 s3 bb3 s2 bb2
  go_wp2_with fail
  refine (same_any A3 _ 3 c3 3 (ofBytes haySet) _ rfl t3' n3 (by omega)).mono ?_
  rintro e w4 ⟨rfl, b4⟩
  have bb4 := bb3'.trans (b4.mono bb3'.size)
  have s4 := s3'.below b4
  clear n3 t3' s3' bb3' b4
  go_wp2_with fail
  refine (places_any (some ⟨w.heap.size, 0, none⟩) 15 15 hayB ⟨#[104, 97, 121]⟩ _ (HT.out _ bb4) rfl s4 (by omega) (by omega) (by omega)).mono ?_
  rintro e w5 ⟨v5, rfl, hown5, b5⟩
  rw [hay_terms, show (ByteArray.mk #[104, 97, 121]).data.toList = [104, 97, 121] from rfl, hay_places] at hown5
  obtain ⟨A5, c5, rfl, _, _, _, _⟩ := hown5.slice
  rw [show ([0, 1] : List Nat).length = 2 from rfl]
  have bb5 := bb4.trans (b5.mono bb4.size)
  have s5 := s4.below b5
  clear hown5 b5 s4 bb4
  go_wp2_with fail
  refine (right_any ⟨#[119, 97, 105, 110]⟩ _ (HT.out _ bb5) (by decide)).mono ?_
  rintro e w6 ⟨rfl, b6⟩
  rw [show (ByteArray.mk #[119, 97, 105, 110]).data.toList = [119, 97, 105, 110] from rfl, hay_yes]
  have bb6 := bb5.trans (b6.mono bb5.size)
  have s6 := s5.below b6
  clear b6 s5 bb5
  go_wp2_with fail
  refine (right_any ⟨#[87, 97, 105, 110]⟩ _ (HT.out _ bb6) (by decide)).mono ?_
  rintro e w7 ⟨rfl, b7⟩
  rw [show (ByteArray.mk #[87, 97, 105, 110]).data.toList = [87, 97, 105, 110] from rfl, hay_no]
  have bb7 := bb6.trans (b7.mono bb6.size)
  have s7 := s6.below b7
  clear b7 s6 bb6
  go_wp2_with fail
  refine (positions_any (some ⟨w.heap.size, 0, none⟩) 15 15 hayB _ (HT.out _ bb7) rfl s7 (by omega) (by omega) (by omega)).mono ?_
  rintro e w8 ⟨v8, rfl, hown8, b8⟩
  unfold OwP at hown8
  rw [hay_terms, hay_pos] at hown8
  obtain ⟨A8, c8, rfl, _, _, _, _⟩ := own_sliceK hown8
  have bb8 := bb7.trans (b8.mono bb7.size)
  clear hown8 b8 s7 bb7
  go_wp2_with fail
  go_ret
  exact ⟨rfl, bb8⟩
end Go.Proofs.YtpnnebnjkinndaaDoor.TokW
