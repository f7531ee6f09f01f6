import Derived.Test.YtmebogaenbjmnaaDoorD3
import Derived.Test.YtmebogaenbjmnaaDoorRefP
namespace Go.Proofs.YtmebogaenbjmnaaDoor.ShaW
open Go.RowKit
open Sha
/-- A literal slice of bytes owns its row. -/
theorem own_lit (w : World) (base : Nat) (e : TypeId) (cs : List Value) (n : Nat) (hn : cs.length = n) (hb : base ≤ w.heap.size) (hm : n ≤ 1000) :
    (w.alloc (.cells cs.toArray e)).ownsRow base e 1 (.slice (some ⟨w.heap.size, 0, none⟩) n n) n cs := by
  have := World.ownsRow_lit (base := base) (e := e) (size := 1) w cs.toArray n hb (by simp only [maxLen]; omega) (by simpa using hn)
  simpa using this
set_option maxRecDepth 100000 in
set_option maxHeartbeats 2000000 in
theorem padded_any (B : Option Addr) (l d : Nat) (bs : List UInt8) (w : World) (hl : bs.length = l) (hb : Sl w B (bcells bs)) (hl40 : l ≤ 1099511627776) :
    Calls Tryd.prog 48 #[.slice B l d] w fun e w' => ∃ A c, e = .returned (.slice A (l + 9 + zc l) c) ∧ Sl w' A (bcells (padL bs)) ∧ l + 9 + zc l ≤ c ∧ Below w.heap.size w w' := by
  have HL : Hid (bs.length = l) := hl
  have hz : zc l < 64 := by unfold zc; omega
  have HZ : Hid (zc l = (119 - l % 64) % 64) := rfl
  clear hl
  generalize zc l = Z at *
  have hr0 : Below w.heap.size w w := Below.refl _ _
  have o0 : (w.alloc (.cells #[] 5)).ownsRow w.heap.size 5 1 (.slice (some ⟨w.heap.size, 0, none⟩) 0 0) 0 [] := own_lit w w.heap.size 5 [] 0 rfl (Nat.le_refl _) (by omega)
  have h0 : Below w.heap.size w (w.alloc (.cells #[] 5)) := hr0.alloc (Nat.le_refl _) _
  go_enter Tryd.func48, Tryd.ntmps48
  go_wp2_with (first
    | (at_builtin; refine wpList_app rfl (.tmp 7) (.tmp 8) 49 rfl bytesTy w.heap.size (.slice (some ⟨w.heap.size, 0, none⟩) 0 0) 0 [] rfl o0 B l d (bcells bs) rfl (by rw [bcells_len]; exact HL.out) (hb.below h0) (bcells_one _) (by omega) (by simp) ?_; intro v1 w1 hown1 hgr1 hbl1; have h1 := below_app h0 hgr1 o0 (Nat.le_refl _) (by simp); simp only [Nat.zero_add, List.nil_append] at hown1; have hs1 := h1.size)
    | (at_builtin; refine wpList_app rfl (.tmp 9) (.tmp 10) 49 rfl bytesTy w.heap.size v1 l (bcells bs) rfl (hown1.alloc _) _ 1 1 (bcells [128]) rfl rfl (Sl.of_at_all (At.new_ w1 _ 5 (bcells [128]) rfl)) (bcells_one _) (by omega) (by simp; omega) ?_; intro v2 w2 hown2 hgr2 hbl2; have h2 := below_app (h1.alloc hs1 (.cells (bcells [128]).toArray 5)) hgr2 (hown1.alloc _) (Nat.le_refl _) (by simp; omega); rw [bcells_app] at hown2))
  clear o0 h0 hown1 hgr1 hgr2 hbl1 hbl2 hr0 hs1
  go_loopw [3] (fun v wr => ∃ m : Nat, l + 1 ≤ m ∧ m ≤ l + 1 + Z ∧ wr.ownsRow w.heap.size 5 1 v m (bcells (bs ++ 128 :: zeros (m - l - 1))) ∧ Below w.heap.size w wr)
    (fun v _ => l + 1 + Z - slLen v)
  case atStart => exact ⟨l + 1, Nat.le_refl _, by omega, by rw [show l + 1 - l - 1 = 0 by omega]; exact hown2, h2⟩
  case round =>
    clear hown2 h2
    obtain ⟨m, hm1, hm2, hown, hbel⟩ := hrel
    obtain ⟨A, c, rfl, hsl, hmc, _, hcm, _⟩ := own_slice hown
    have hbs := hbel.size
    by_cases hlt : m < l + 1 + Z
    · have hne : ((m : Int) % 64 != 56) = true := by
        have : m % 64 ≠ 56 := by have := HZ.out; omega
        simp; omega
      have HX : Hid (bs ++ 128 :: zeros (m + 1 - l - 1) = (bs ++ 128 :: zeros (m - l - 1)) ++ [0]) := by
        show _ = _
        rw [show m + 1 - l - 1 = (m - l - 1) + 1 by omega]
        simp [zeros, List.replicate_succ']
      have hsl0 : Sl (wr.alloc (.cells #[.int .u8 0] 5)) (some ⟨wr.heap.size, 0, none⟩) (bcells [0]) := Sl.of_at_all (At.new_ wr _ 5 (bcells [0]) rfl)
      go_wp2_with (first
        | (at_builtin; refine wpList_app rfl (.tmp 16) (.tmp 17) 49 rfl bytesTy w.heap.size (.slice A m c) m _ rfl (hown.alloc _) _ 1 1 (bcells [0]) rfl rfl hsl0 (bcells_one _) (by omega) (by simp; omega) ?_; intro v2 w2 hown2 hgr2 hbl2))
      have hbel2 := below_app (hbel.alloc hbs _) hgr2 (hown.alloc _) (Nat.le_refl _) (by simp; omega)
      obtain ⟨A2, c2, rfl, _, _⟩ := own_slice hown2
      go_roundw
      case rel =>
        refine ⟨m + 1, by omega, by omega, ?_, hbel2⟩
        rw [HX.out, ← bcells_app]; exact hown2
      case measure => simp [slLen]; omega
    · have hne : ((m : Int) % 64 != 56) = false := by
        have : m % 64 = 56 := by have := HZ.out; omega
        simp; omega
      have HM : Hid (m = l + 1 + Z) := by show _ = _; omega
      go_wp2_with fail
      clear hne
      obtain ⟨OUT, hOUT⟩ : ∃ OUT, OUT = bs ++ 128 :: zeros (m - l - 1) := ⟨_, rfl⟩
      rw [← hOUT] at hown
      have HOUT : Hid (OUT = bs ++ 128 :: zeros Z) := by show _ = _; rw [hOUT, show m - l - 1 = Z by have := HM.out; omega]
      clear hOUT hlt hsl
      obtain ⟨wo, hwo⟩ : ∃ wo : World, wo = wr := ⟨_, rfl⟩
      subst hwo
      go_loopw [4, 5, 6] (fun q t i wr => ∃ (k Q : Nat), k ≤ 8 ∧ i = .int .i64 k ∧ q = .int .u64 (Q : Int) ∧ Hid (Q = 8 * l / 256 ^ k) ∧ Q ≤ 8796093022208 ∧ wr.ownsRow w.heap.size 5 1 t k (bcells (tailB l k)) ∧ wr.ownsRow w.heap.size 5 1 (.slice A m c) m (bcells OUT) ∧ Below w.heap.size w wr)
        (fun _ _ i _ => 8 - (intOf i).toNat)
      case atStart => exact ⟨0, 8 * l, by omega, rfl, congrArg (Value.int .u64) (by omega), by show _ = _; simp, by omega, World.ownsRow_nil _ _ _ _, hown, hbel⟩
      case round =>
        clear hown hbel hbs
        obtain ⟨k, Q, hk, rfl, rfl, HQ, hQ, ht, hown, hbel⟩ := hrel
        obtain ⟨A5, c5, rfl, hs5, _, _⟩ := own_slice ht
        have hbs := hbel.size
        by_cases hlt : k < 8
        · have HT : Hid (tailB l (k + 1) = [UInt8.ofNat Q] ++ tailB l k) := by show _ = _; rw [HQ.out]; rfl
          have hu : ub (UInt8.ofNat Q) = (Q : Int) % 256 := by unfold ub; rw [UInt8.toNat_ofNat']; simp
          have HSL : Hid ((wr.alloc (.cells #[.int .u8 ((Q : Int) % 256)] 5)).ownsRow w.heap.size 5 1 (.slice (some ⟨wr.heap.size, 0, none⟩) 1 1) 1 (bcells [UInt8.ofNat Q])) := by
            have := own_lit wr w.heap.size 5 (bcells [UInt8.ofNat Q]) 1 rfl hbs (by omega)
            unfold Hid
            simpa [bcells, bv, hu] using this
          have HQ2 : Hid (Q / 256 = 8 * l / 256 ^ (k + 1)) := by
            show _ = _; rw [HQ.out, Nat.div_div_eq_div_mul, Nat.pow_succ]
          clear hu
          go_wp2_with (first
            | (at_builtin; refine wpList_app rfl (.tmp 30) (.tmp 31) 49 rfl bytesTy w.heap.size (.slice (some ⟨wr.heap.size, 0, none⟩) 1 1) 1 _ rfl HSL.out A5 k c5 (bcells (tailB l k)) rfl (by rw [bcells_len, tailB_len]) (hs5.alloc _) (bcells_one _) (by omega) (by simp; omega) ?_; intro v2 w2 hown2 hgr2 hbl2))
          have hbel2 := below_app (hbel.alloc hbs _) hgr2 HSL.out (Nat.le_refl _) (by simp; omega)
          have hown3 := (hown.alloc (.cells #[.int .u8 ((Q : Int) % 256)] 5)).kept hgr2 (by
            rcases hob : (Value.slice A m c).ownBlock with _ | b
            · exact .inl rfl
            · right
              have := (hown.lt b hob).2
              simp [Value.ownBlock]; omega)
          go_roundw
          case rel =>
            refine ⟨k + 1, Q / 256, by omega, by go_num, congrArg (Value.int .u64) (by omega), HQ2, by omega, ?_, hown3, hbel2⟩
            rw [HT.out, ← bcells_app, Nat.add_comm k 1]; exact hown2
          case measure => simp [intOf]; omega
        · have hk8 : 8 ≤ k := by omega
          have HK : Hid (k = 8) := by show _ = _; omega
          go_wp2_with (first
            | (at_builtin; refine wpList_app rfl (.tmp 35) (.tmp 36) 49 rfl bytesTy w.heap.size (.slice A m c) m _ rfl hown A5 k c5 (bcells (tailB l k)) rfl (by rw [bcells_len, tailB_len]) hs5 (bcells_one _) (by omega) hbs ?_; intro v2 w2 hown2 hgr2 hbl2))
          have hbel2 := below_app hbel hgr2 hown (Nat.le_refl _) hbs
          obtain ⟨A2, c2, rfl, hsl2, hc2, _⟩ := own_slice hown2
          go_ret
          have e1 : m + k = l + 9 + Z := by have := HM.out; omega
          refine ⟨A2, c2, ?_, ?_, by omega, hbel2⟩
          · rw [← e1]; rfl
          · rw [bcells_app, HOUT.out, HK.out, tailB_lenB] at hsl2
            have hz2 : Z = zc bs.length := by rw [HL.out]; exact HZ.out
            unfold padL
            rw [← hz2, HL.out]; exact hsl2
end Go.Proofs.YtmebogaenbjmnaaDoor.ShaW
