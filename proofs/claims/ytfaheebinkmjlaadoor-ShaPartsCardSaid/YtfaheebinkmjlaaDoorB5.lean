import Derived.Test.YtfaheebinkmjlaaDoorB4
import Derived.Lib.SlBytesConst
namespace Go.Proofs.YtfaheebinkmjlaaDoor
open Go.RowKit
open Sha
theorem sha_nil : sha [] = [227, 176, 196, 66, 152, 252, 28, 20, 154, 251, 244, 200, 153, 111, 185, 36, 39, 174, 65, 228, 100, 155, 147, 76, 164, 149, 153, 27, 120, 82, 184, 85] := by decide +kernel
theorem hex_d0 : hexL [227, 176, 196, 66, 152, 252, 28, 20, 154, 251, 244, 200, 153, 111, 185, 36, 39, 174, 65, 228, 100, 155, 147, 76, 164, 149, 153, 27, 120, 82, 184, 85] = [101, 51, 98, 48, 99, 52, 52, 50, 57, 56, 102, 99, 49, 99, 49, 52, 57, 97, 102, 98, 102, 52, 99, 56, 57, 57, 54, 102, 98, 57, 50, 52, 50, 55, 97, 101, 52, 49, 101, 52, 54, 52, 57, 98, 57, 51, 52, 99, 97, 52, 57, 53, 57, 57, 49, 98, 55, 56, 53, 50, 98, 56, 53, 53] := by decide +kernel
theorem sha_abc : sha [97, 98, 99] = [186, 120, 22, 191, 143, 1, 207, 234, 65, 65, 64, 222, 93, 174, 34, 35, 176, 3, 97, 163, 150, 23, 122, 156, 180, 16, 255, 97, 242, 0, 21, 173] := by decide +kernel
theorem hex_d1 : hexL [186, 120, 22, 191, 143, 1, 207, 234, 65, 65, 64, 222, 93, 174, 34, 35, 176, 3, 97, 163, 150, 23, 122, 156, 180, 16, 255, 97, 242, 0, 21, 173] = [98, 97, 55, 56, 49, 54, 98, 102, 56, 102, 48, 49, 99, 102, 101, 97, 52, 49, 52, 49, 52, 48, 100, 101, 53, 100, 97, 101, 50, 50, 50, 51, 98, 48, 48, 51, 54, 49, 97, 51, 57, 54, 49, 55, 55, 97, 57, 99, 98, 52, 49, 48, 102, 102, 54, 49, 102, 50, 48, 48, 49, 53, 97, 100] := by decide +kernel
theorem sum_nil (w : World) (hT : Tab w) : Calls Tryd.prog 9 #[.slice none 0 0] w fun e w' => e = .returned (.string ⟨#[227, 176, 196, 66, 152, 252, 28, 20, 154, 251, 244, 200, 153, 111, 185, 36, 39, 174, 65, 228, 100, 155, 147, 76, 164, 149, 153, 27, 120, 82, 184, 85]⟩) ∧ Below w.heap.size w w' :=
  (sum_any none 0 0 [] w hT rfl Sl.nil (by omega) (by omega) (by omega)).mono fun e w' ⟨h, hb⟩ => ⟨by rw [h, sha_nil], hb⟩
theorem hex0 (w : World) : Calls Tryd.prog 16 #[.string ⟨#[227, 176, 196, 66, 152, 252, 28, 20, 154, 251, 244, 200, 153, 111, 185, 36, 39, 174, 65, 228, 100, 155, 147, 76, 164, 149, 153, 27, 120, 82, 184, 85]⟩] w fun e w' => e = .returned (.string ⟨#[101, 51, 98, 48, 99, 52, 52, 50, 57, 56, 102, 99, 49, 99, 49, 52, 57, 97, 102, 98, 102, 52, 99, 56, 57, 57, 54, 102, 98, 57, 50, 52, 50, 55, 97, 101, 52, 49, 101, 52, 54, 52, 57, 98, 57, 51, 52, 99, 97, 52, 57, 53, 57, 57, 49, 98, 55, 56, 53, 50, 98, 56, 53, 53]⟩) ∧ Below w.heap.size w w' :=
  (hex_any ⟨#[227, 176, 196, 66, 152, 252, 28, 20, 154, 251, 244, 200, 153, 111, 185, 36, 39, 174, 65, 228, 100, 155, 147, 76, 164, 149, 153, 27, 120, 82, 184, 85]⟩ w (by decide)).mono fun e w' ⟨h, hb⟩ => ⟨by rw [h, hex_d0], hb⟩
theorem sum_abc (A : Option Addr) (w : World) (hT : Tab w) (hs : Sl w A (bcells [97, 98, 99])) : Calls Tryd.prog 9 #[.slice A 3 3] w fun e w' => e = .returned (.string ⟨#[186, 120, 22, 191, 143, 1, 207, 234, 65, 65, 64, 222, 93, 174, 34, 35, 176, 3, 97, 163, 150, 23, 122, 156, 180, 16, 255, 97, 242, 0, 21, 173]⟩) ∧ Below w.heap.size w w' :=
  (sum_any A 3 3 [97, 98, 99] w hT rfl hs (by omega) (by omega) (by omega)).mono fun e w' ⟨h, hb⟩ => ⟨by rw [h, sha_abc], hb⟩
theorem end_new (w : World) (hT : Tab w) : Calls Tryd.prog 13 #[.agg (stc iv (.slice none 0 0) 0).toArray] w fun e w' => e = .returned (.string ⟨#[227, 176, 196, 66, 152, 252, 28, 20, 154, 251, 244, 200, 153, 111, 185, 36, 39, 174, 65, 228, 100, 155, 147, 76, 164, 149, 153, 27, 120, 82, 184, 85]⟩) ∧ Below w.heap.size w w' :=
  (end_ok iv none 0 0 0 [] w hT rfl Sl.nil ⟨by omega, by omega, rfl⟩).mono fun e w' ⟨h, hb⟩ => ⟨by rw [h]; exact congrArg (fun l : List UInt8 => Ending.returned (.string ⟨l.toArray⟩)) sha_nil, hb⟩
theorem unhex1 (w : World) : Calls Tryd.prog 14 #[.string ⟨#[98, 97, 55, 56, 49, 54, 98, 102, 56, 102, 48, 49, 99, 102, 101, 97, 52, 49, 52, 49, 52, 48, 100, 101, 53, 100, 97, 101, 50, 50, 50, 51, 98, 48, 48, 51, 54, 49, 97, 51, 57, 54, 49, 55, 55, 97, 57, 99, 98, 52, 49, 48, 102, 102, 54, 49, 102, 50, 48, 48, 49, 53, 97, 100]⟩] w fun e w' => e = .returned (.tuple #[.string ⟨#[186, 120, 22, 191, 143, 1, 207, 234, 65, 65, 64, 222, 93, 174, 34, 35, 176, 3, 97, 163, 150, 23, 122, 156, 180, 16, 255, 97, 242, 0, 21, 173]⟩, .int .i64 0]) ∧ Below w.heap.size w w' := by
  refine (fromHex_any ⟨#[98, 97, 55, 56, 49, 54, 98, 102, 56, 102, 48, 49, 99, 102, 101, 97, 52, 49, 52, 49, 52, 48, 100, 101, 53, 100, 97, 101, 50, 50, 50, 51, 98, 48, 48, 51, 54, 49, 97, 51, 57, 54, 49, 55, 55, 97, 57, 99, 98, 52, 49, 48, 102, 102, 54, 49, 102, 50, 48, 48, 49, 53, 97, 100]⟩ w (by decide)).mono ?_
  rintro e w' ⟨str, code, rfl, hf, hb⟩
  have hl : (ByteArray.mk #[98, 97, 55, 56, 49, 54, 98, 102, 56, 102, 48, 49, 99, 102, 101, 97, 52, 49, 52, 49, 52, 48, 100, 101, 53, 100, 97, 101, 50, 50, 50, 51, 98, 48, 48, 51, 54, 49, 97, 51, 57, 54, 49, 55, 55, 97, 57, 99, 98, 52, 49, 48, 102, 102, 54, 49, 102, 50, 48, 48, 49, 53, 97, 100]).data.toList = hexL [186, 120, 22, 191, 143, 1, 207, 234, 65, 65, 64, 222, 93, 174, 34, 35, 176, 3, 97, 163, 150, 23, 122, 156, 180, 16, 255, 97, 242, 0, 21, 173] := hex_d1.symm
  rw [hl] at hf
  rcases hf with ⟨_, _, h1, h2⟩ | ⟨hno, _⟩
  · rw [dec_hex] at h1
    subst h1 h2
    exact ⟨rfl, hb⟩
  · exact absurd ⟨by rw [hexL_len]; omega, ok_hex _⟩ hno
theorem sl_marked (w : World) (cs : List Value) (e : TypeId) (fr : Nat × Nat) : Sl (w.alloc (.cells cs.toArray e fr)) (some ⟨w.heap.size, 0, none⟩) cs :=
  fun _ => ⟨_, _, rfl, fun j u hu => by
    rw [Nat.zero_add, cell_of_row _ _ _ cs.toArray e fr (heap_alloc_new w _)]; simpa using hu⟩
set_option maxRecDepth 100000 in
set_option maxHeartbeats 2000000 in
theorem knows_any (w : World) (hT : Tab w) : Calls Tryd.prog 8 #[] w fun e w' => e = .returned (.bool true) ∧ Below w.heap.size w w' := by
  have hpos := hT.pos
  go_enter Tryd.func8, Tryd.ntmps8
  go_wp2_with fail
  refine (unhex1 _).mono ?_
  rintro e w1 ⟨rfl, hb1⟩
  have t1 := hT.below hb1 hpos
  go_wp2_with fail
  refine (sum_nil _ t1).mono ?_
  rintro e w2 ⟨rfl, hb2⟩
  have t2 := t1.below hb2 t1.pos
  go_wp2_with fail
  refine (hex0 _).mono ?_
  rintro e w3 ⟨rfl, hb3⟩
  have t3 := t2.below hb3 t2.pos
  have kc := fun (w : World) (C : Array Value) (n c : Nat) => Lib.run_convert_bytes_const (P := Tryd.prog) w 22 5 C n c under22 under5
  go_wp2_with fail
  refine (sum_abc _ _ (t3.below ((Below.refl _ _).alloc (Nat.le_refl _) _) t3.pos) (sl_marked w3 (bcells [97, 98, 99]) 5 (3, 4))).mono ?_
  rintro e w4 ⟨rfl, hb4⟩
  have b4 : Below w3.heap.size w3 w4 := ((Below.refl _ _).alloc (Nat.le_refl _) _).trans (hb4.mono (by simp))
  have t4 := t3.below b4 t3.pos
  go_wp2_with fail
  refine (new_any _).mono ?_
  rintro e w5 ⟨rfl, hb5⟩
  have t5 := t4.below hb5 t4.pos
  go_wp2_with fail
  refine (end_new _ t5).mono ?_
  rintro e w6 ⟨rfl, hb6⟩
  have t6 := t5.below hb6 t5.pos
  go_wp2_with fail
  refine (sum_nil _ t6).mono ?_
  rintro e w7 ⟨rfl, hb7⟩
  go_wp2_with fail
  go_ret
  have s1 := hb1.size
  have s2 := hb2.size
  have s3 := hb3.size
  have s4 := b4.size
  have s5 := hb5.size
  have s6 := hb6.size
  exact ⟨rfl, (((((hb1.trans (hb2.mono (by omega))).trans (hb3.mono (by omega))).trans (b4.mono (by omega))).trans (hb5.mono (by omega))).trans (hb6.mono (by omega))).trans (hb7.mono (by omega))⟩
end Go.Proofs.YtfaheebinkmjlaaDoor
