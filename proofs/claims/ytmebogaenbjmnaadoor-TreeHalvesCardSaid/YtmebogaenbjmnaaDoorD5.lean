import Derived.Test.YtmebogaenbjmnaaDoorD4
import Derived.Deep.RegionHeld3
namespace Go.Proofs.YtmebogaenbjmnaaDoor.ShaW
open Go.RowKit
open Sha
theorem sha_blocks (bs : List UInt8) : textB (blocksN (padL bs) ((padL bs).length / 64)).toL = sha bs := by
  rw [blocks_all _ (padL_mod bs), absorb_pad]; rfl
theorem mul64_succ (k : Nat) : 64 * (k : Int) + 64 = 64 * ((k + 1 : Nat) : Int) := by omega
theorem meas64 (L k : Nat) (h : 64 * k + 64 ≤ L) : L - (intOf (.int .i64 (64 * (k : Int) + 64))).toNat < L - (intOf (.int .i64 (64 * (k : Int)))).toNat := by simp only [intOf]; omega
set_option maxRecDepth 100000 in
set_option maxHeartbeats 4000000 in
theorem refSum_any (B : Option Addr) (l d : Nat) (bs : List UInt8) (w : World) (hl : bs.length = l) (hb : Sl w B (bcells bs)) (hl40 : l ≤ 1099511627776) :
    Calls Tryd.prog 33 #[.slice B l d] w fun e w' => e = .returned (.string ⟨(sha bs).toArray⟩) ∧ Below w.heap.size w w' := by
  have HL : Hid (bs.length = l) := hl
  have HP : Hid ((padL bs).length = l + 9 + zc l) := by show _ = _; rw [padL_len, hl]
  have HM : Hid ((l + 9 + zc l) % 64 = 0) := by show _ = _; rw [← HP.out]; exact padL_mod bs
  have hz : zc l < 64 := by unfold zc; omega
  clear hl
  have h0 : Below w.heap.size w (w.alloc (.cells (wcells iv.toL).toArray 62)) := (Below.refl _ _).alloc (Nat.le_refl _) _
  have a0 : At (w.alloc (.cells (wcells iv.toL).toArray 62)) w.heap.size 62 (wcells iv.toL) := At.new_ _ _ _ _ rfl
  go_enter Tryd.func33, Tryd.ntmps33
  go_wp2_with fail
  refine (padded_any B l d bs _ HL.out (hb.below h0) hl40).mono ?_
  rintro e wp ⟨A, c, rfl, hsl, hLc, hb1⟩
  have a1 := a0.below hb1 a0.lt
  have h1 := h0.trans (hb1.mono h0.size)
  have hP : (padL bs).length = l + 9 + zc l := HP.out
  have hLb : l + 9 + zc l ≤ 1099511627900 := by omega
  generalize l + 9 + zc l = L at *
  have HP : Hid ((padL bs).length = L) := hP
  clear hP a0 h0 hb1
  go_wp2_with fail
  go_loopw [3, 5] (fun v i wr => ∃ (k g : Nat), 64 * k ≤ L ∧ i = .int .i64 (64 * (k : Int)) ∧ v = .slice (some ⟨g, 0, none⟩) 8 8 ∧ At wr g 62 (wcells (blocksN (padL bs) k).toL) ∧ Below w.heap.size w wr ∧ Below wp.heap.size wp wr)
    (fun _ i _ => L - (intOf i).toNat)
  case atStart => exact ⟨0, w.heap.size, by omega, rfl, rfl, a1, h1, Below.refl _ _⟩
  case round =>
    clear a1 h1
    obtain ⟨k, g, hk, rfl, rfl, hat, hbel, hbp⟩ := hrel
    by_cases hlt : 64 * k < L
    · have h64 : 64 * k + 64 ≤ L := by have := HM.out; omega
      have hs2 : Sl wr (A.map (·.add (64 * k))) (bcells (((padL bs).drop (64 * k)).take 64)) := by
        have := (hsl.below hbp).cut (64 * k) c (by rw [bcells_len, HP.out]; omega)
        rw [if_neg (by omega), bcells_drop] at this
        have := this.take 64
        rw [bcells_take] at this
        exact this
      have hw : wrap64 (64 * (k : Int) + 64) = 64 * (k : Int) + 64 := IntWalk.wrap64_in _ (by omega)
      have HQ : Hid (64 * (k : Int) + 64 = 64 * ((k + 1 : Nat) : Int)) := mul64_succ k
      clear hLb
      have hk1 : 64 * (k + 1) ≤ L := h64
      have ht : (64 * (k : Int) + 64).toNat - 64 * k = 64 := by omega
      have hl64 : (((padL bs).drop (64 * k)).take 64).length = 64 := by
        rw [List.length_take, List.length_drop, HP.out]; omega
      go_wp2_with fail
      simp only [hw]
      refine (block_any (blocksN (padL bs) k) (some ⟨g, 0, none⟩) (A.map (·.add (64 * k))) 8 (c - 64 * k) _ wr hl64 (Sl.of_at_all hat) hs2).mono ?_
      rintro e w2 ⟨g2, rfl, hat2, hb2⟩
      have hbel2 := hbel.trans (hb2.mono hbel.size)
      have hbp2 := hbp.trans (hb2.mono hbp.size)
      have hat3 : At w2 g2 62 (wcells (blocksN (padL bs) (k + 1)).toL) := hat2
      clear hs2 hat2 hl64
      go_wp2_with fail
      go_roundw
      case rel => exact ⟨k + 1, g2, hk1, congrArg (Value.int .i64) (by first | exact HQ.out | (rw [hw]; exact HQ.out)), rfl, hat3, hbel2, hbp2⟩
      case measure => first | exact meas64 L k h64 | (simp only [hw]; exact meas64 L k h64)
    · have hk64 : L ≤ 64 * k := by omega
      have HS : Hid (blocksN (padL bs) k = blocksN (padL bs) ((padL bs).length / 64)) := by
        show _ = _; rw [HP.out, show L / 64 = k by omega]
      obtain ⟨ws, hws⟩ : ∃ ws, ws = (blocksN (padL bs) k).toL := ⟨_, rfl⟩
      have hwl : ws.length = 8 := by rw [hws]; rfl
      rw [← hws] at hat
      have HF : Hid (textB ws = sha bs) := by show _ = _; rw [hws, HS.out, sha_blocks]
      have HWL : Hid (ws.length = 8) := hwl
      clear hws hwl HS hsl hbp
      have hgl := hat.lt
      have hws := hbel.size
      have HC : Hid (∀ wx, Below wr.heap.size wr wx → ∀ j, j < 8 → wx.cell? ⟨g, j, none⟩ = some (.int .u32 (un (ws.getD j 0)))) := fun wx hx j hj => ((hat.below hx hgl).cell j).trans (wcells_get _ _ (by rw [HWL.out]; exact hj))
      clear hat
      go_wp2_with fail
      obtain ⟨wo, hwo⟩ : ∃ wo : World, wo = wr := ⟨_, rfl⟩
      subst hwo
      go_loopw [6, 7] (fun v i wr => ∃ k : Nat, k ≤ 8 ∧ i = .int .i64 k ∧ wr.ownsRow wo.heap.size 5 1 v (4 * k) (bcells (textB (ws.take k))) ∧ Below wo.heap.size wo wr)
        (fun _ i _ => 8 - (intOf i).toNat)
      case atStart => exact ⟨0, by omega, rfl, World.ownsRow_nil _ _ _ _, Below.refl _ _⟩
      case round =>
        obtain ⟨k, hk8, rfl, hown, hb3⟩ := hrel
        by_cases hlt : k < 8
        · have cx := HC.out wr hb3 k hlt
          have HX : Hid (textB (ws.take (k + 1)) = textB (ws.take k) ++ be (ws.getD k 0)) := textB_snoc ws k (by rw [HWL.out]; exact hlt)
          have HCX : Hid (∀ wx, Below wo.heap.size wo wx → wx.cell? ⟨g, k, none⟩ = some (.int .u32 (un (ws.getD k 0)))) := fun wx h => HC.out wx h k hlt
          generalize ws.getD k 0 = x at *
          have hsz3 := hb3.size
          have b1 := un_lt x
          have b0 := un_nn x
          have q1 : IntKind.u32.wrap ((un x).tdiv 16777216) = un x / 16777216 := IntWalk.u32_quo _ _ (by omega)
          have q2 : IntKind.u32.wrap ((un x).tdiv 65536) = un x / 65536 := IntWalk.u32_quo _ _ (by omega)
          have q3 : IntKind.u32.wrap ((un x).tdiv 256) = un x / 256 := IntWalk.u32_quo _ _ (by omega)
          have r2 : (un x / 65536).tmod 256 = un x / 65536 % 256 := Int.tmod_eq_emod_of_nonneg (by omega)
          have r3 : (un x / 256).tmod 256 = un x / 256 % 256 := Int.tmod_eq_emod_of_nonneg (by omega)
          have r4 : (un x).tmod 256 = un x % 256 := Int.tmod_eq_emod_of_nonneg (by omega)
          have s1 : IntKind.u8.wrap (un x / 16777216) = un x / 16777216 % 256 := by rw [IntWalk.u8_in _ (by omega)]; omega
          have s2 : IntKind.u8.wrap (un x / 65536 % 256) = un x / 65536 % 256 := IntWalk.u8_in _ (by omega)
          have s3 : IntKind.u8.wrap (un x / 256 % 256) = un x / 256 % 256 := IntWalk.u8_in _ (by omega)
          have s4 : IntKind.u8.wrap (un x % 256) = un x % 256 := IntWalk.u8_in _ (by omega)
          have g0 : (0 : Int) ≤ (k : Int) := by omega
          have l0 : (k : Int) < 8 := by omega
          clear b0 b1
          have hsl : Sl (wr.alloc (.cells #[.int .u8 (un x / 16777216 % 256), .int .u8 (un x / 65536 % 256), .int .u8 (un x / 256 % 256), .int .u8 (un x % 256)] 5)) (some ⟨wr.heap.size, 0, none⟩) (bcells (be x)) := by
            rw [be_cells]; exact Sl.of_at_all (At.new_ wr _ 5 _ rfl)
          go_wp2_with fail
          go_region_held3 (fun wx => wx.cell? ⟨g, k, none⟩ = some (.int .u32 (un x)))
            (first
              | go_keep
              | exact HCX.out _ hb4)
            ((refine step_app rfl (.tmp 28) (.tmp 55) 49 rfl bytesTy wo.heap.size u6 (4 * k) _ (by rfl) (hown.alloc _).drew _ 4 4 (bcells (be x)) (by rfl) (by rfl) hsl (bcells_one _) (by omega) (by simp; omega) ?_; intro v2 w2 hown2 hgr2 hbl2; have hb4 := below_app ((hb3.alloc hsz3 (.cells #[.int .u8 (un x / 16777216 % 256), .int .u8 (un x / 65536 % 256), .int .u8 (un x / 256 % 256), .int .u8 (un x % 256)] 5)).drew) hgr2 (hown.alloc _).drew (Nat.le_refl _) (by simp; omega)))
          go_simp
          go_wp2_with fail
          go_roundw
          case rel =>
            refine ⟨k + 1, by omega, by go_num, ?_, hb4⟩
            rw [HX.out, ← bcells_app, show 4 * (k + 1) = 4 * k + 4 by omega]; exact hown2
          case measure => simp [intOf]; omega
        · have hk8' : 8 ≤ k := by omega
          have hown' : wr.ownsRow wo.heap.size 5 1 u6 32 (bcells (textB ws)) := by
            have e : k = 8 := by omega
            rw [e, List.take_of_length_le (by rw [HWL.out]; omega)] at hown; exact hown
          obtain ⟨A', c', rfl, hsl, _, _⟩ := own_slice hown'
          have hstr := run_str (P := Tryd.prog) wr 49 9 5 under22 under5 under9 A' (textB ws) 32 c' (by rw [textB_len]; have := HWL.out; omega) hsl
          rw [HF.out] at hstr
          clear hown hown' hsl
          go_wp2_with fail
          go_ret
          exact ⟨rfl, hbel.trans (hb3.mono hbel.size)⟩
end Go.Proofs.YtmebogaenbjmnaaDoor.ShaW
