/- The reference's begins. -/
import Derived.Test.YtpnnebnjkinndaaDoorUj
namespace Go.Proofs.YtpnnebnjkinndaaDoor.UtfW
open Go.RowKit
def leadU (n : Nat) : Int := match n with | 2 => 192 | 3 => 224 | 4 => 240 | _ => 0
/-- The number after i further bytes. -/
def accU (b : List UInt8) (ld : Int) : Nat → Int
  | 0 => at8 b 0 - ld
  | i + 1 => accU b ld i * 64 + at8 b (i + 1) - 128
theorem accU_val (b : List UInt8) (n : Nat) (h1 : 1 ≤ n) (h4 : n ≤ 4) : accU b (leadU n) (n - 1) = valU b n := by
  match n, h1, h4 with
  | 1, _, _ => simp [accU, leadU, valU]
  | 2, _, _ => simp [accU, leadU, valU]
  | 3, _, _ => simp [accU, leadU, valU]
  | 4, _, _ => simp [accU, leadU, valU]
theorem at8_range (b : List UInt8) (i : Nat) : 0 ≤ at8 b i ∧ at8 b i < 256 := by
  unfold at8
  have := (b.getD i 0).toNat_lt
  omega
theorem accU_bound (b : List UInt8) (ld : Int) (h : 0 ≤ ld ∧ ld ≤ 255) : ∀ i, -(256 * 65 ^ i : Nat) ≤ accU b ld i ∧ accU b ld i ≤ (256 * 65 ^ i : Nat)
  | 0 => by
    have := at8_range b 0
    unfold accU; simp; omega
  | i + 1 => by
    have h1 := accU_bound b ld h i
    have h2 := at8_range b (i + 1)
    have hp : 1 ≤ 65 ^ i := Nat.one_le_pow _ _ (by omega)
    have hq : 65 ^ (i + 1) = 65 ^ i * 65 := Nat.pow_succ ..
    rw [hq]
    generalize 65 ^ i = P at *
    unfold accU
    omega
theorem accU_small (b : List UInt8) (ld : Int) (h : 0 ≤ ld ∧ ld ≤ 255) (i : Nat) (hi : i ≤ 3) : -70304000 ≤ accU b ld i ∧ accU b ld i ≤ 70304000 := by
  have h1 := accU_bound b ld h i
  have h2 : 65 ^ i ≤ 65 ^ 3 := Nat.pow_le_pow_right (by omega) hi
  generalize 65 ^ i = P at *
  omega
theorem leadU_range (n : Nat) : 0 ≤ leadU n ∧ leadU n ≤ 255 := by
  unfold leadU; split <;> omega
set_option maxRecDepth 1000000 in
set_option maxHeartbeats 1000000 in
theorem begins_short (B : Option Addr) (l d : Nat) (n : Nat) (w : World) (h : l < n) (_hn : n ≤ 4) :
    Calls Tryd.prog 40 #[.slice B l d, .int .i64 (n : Int)] w fun e w' => e = .returned (.int .i64 (-1)) ∧ Below w.heap.size w w' := by
  go_enter Tryd.func40, Tryd.ntmps40
  go_wp2_with fail
  go_ret
  exact ⟨rfl, Below.refl _ _⟩
set_option maxRecDepth 1000000 in
set_option maxHeartbeats 1000000 in
theorem begins_any (B : Option Addr) (l d : Nat) (bs : List UInt8) (n : Nat) (w : World) (hl : bs.length = l) (hb : Sl w B (bcells bs)) (h : n ≤ l) (h1 : 1 ≤ n) (hn : n ≤ 4) :
    Calls Tryd.prog 40 #[.slice B l d, .int .i64 (n : Int)] w fun e w' => e = .returned (.int .i64 (valU bs n)) ∧ Below w.heap.size w w' := by
  have HL := Lib.hid hl
  have HV := Lib.hid (accU_val bs n h1 hn)
  have hlr := leadU_range n
  have HS := Lib.hid (fun i hi => accU_small bs (leadU n) hlr i hi)
  obtain ⟨b, o, rfl, hblt, hcell⟩ := hb.get (j := 0) (by rw [bcells_len, hl]; omega)
  have h8 := at8_range bs 0
  have hb0 : w.cell? ⟨b, o, none⟩ = some (.int .u8 (at8 bs 0)) := hcell 0 _ (bcells_get bs 0 (by rw [hl]; omega))
  have b1 : Below w.heap.size w (w.alloc (.cells #[.int .i64 0, .int .i64 0, .int .i64 192, .int .i64 224, .int .i64 240] 3)) := (Below.refl _ _).alloc (Nat.le_refl _) _
  have hc0 := (b1.cell (p := ⟨b, o, none⟩) hblt).trans hb0
  have hc1 : (w.alloc (.cells #[.int .i64 0, .int .i64 0, .int .i64 192, .int .i64 224, .int .i64 240] 3)).cell? ⟨w.heap.size, n, none⟩ = some (.int .i64 (leadU n)) := by
    rw [(At.new_ w _ 3 [.int .i64 0, .int .i64 0, .int .i64 192, .int .i64 224, .int .i64 240] rfl).cell n]
    match n, h1, hn with
    | 1, _, _ => rfl
    | 2, _, _ => rfl
    | 3, _, _ => rfl
    | 4, _, _ => rfl
  have HC : Hid (∀ (W : World) k, Below w.heap.size w W → k < l → W.cell? ⟨b, o + k, none⟩ = some (.int .u8 (at8 bs k))) := fun W k hW hk => (hW.cell (p := ⟨b, o + k, none⟩) hblt).trans (hcell k _ (bcells_get bs k (by rw [hl]; exact hk)))
  have H0 : Hid (accU bs (leadU n) 0 = at8 bs 0 - leadU n) := rfl
  clear hl hcell hb hb0
  generalize at8 bs 0 = y0 at *
  obtain ⟨ld, hld⟩ : ∃ ld, ld = leadU n := ⟨_, rfl⟩
  rw [← hld] at hlr HV HS hc1 H0
  clear hld
  go_enter Tryd.func40, Tryd.ntmps40
  go_wp2_with fail
  go_quiet (fail)
  have bq := below_drewN b1 nq
  go_wp2_with fail
  clear hc0 hc1 b1
  go_loopw [6, 7] (fun c i wr => ∃ (k : Nat) (a : Int), 1 ≤ k ∧ k ≤ n ∧ i = .int .i64 k ∧ c = .int .i64 a ∧ Hid (a = accU bs ld (k - 1)) ∧ Below w.heap.size w wr) (fun _ i _ => n - (intOf i).toNat)
  case atStart => exact ⟨1, y0 - ld, by omega, h1, rfl, rfl, by show _ = _; rw [Nat.sub_self, H0.out], bq⟩
  case round =>
    obtain ⟨k, a, hk1, hk, rfl, rfl, HA, hbel⟩ := hrel
    by_cases hlt : k < n
    · have hc := HC.out wr k hbel (by omega)
      have h8 := at8_range bs k
      have hs1 := HS.out (k - 1) (by omega)
      rw [← HA.out] at hs1
      have HN : Hid (a * 64 + at8 bs k - 128 = accU bs ld k) := by
        show _ = _
        obtain ⟨j, rfl⟩ : ∃ j, k = j + 1 := ⟨k - 1, by omega⟩
        rw [HA.out]; rfl
      generalize at8 bs k = y at *
      go_wp2_with fail
      go_roundw
      case rel => exact ⟨k + 1, a * 64 + y - 128, by omega, by omega, by go_num, by go_num, by rw [Nat.add_sub_cancel]; exact HN, hbel⟩
      case measure => simp [intOf]; omega
    · have HF : Hid (a = valU bs n) := by
        show _ = _
        rw [HA.out, ← HV.out, show k = n by omega]
      go_wp2_with fail
      go_ret
      exact ⟨by rw [← HF.out]; rfl, hbel⟩
end Go.Proofs.YtpnnebnjkinndaaDoor.UtfW
