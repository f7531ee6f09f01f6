/- The reference's Num, Text, List; great; Same. -/
import Derived.Test.YtpbldkfoldjocaaCb
namespace Go.Proofs.Ytpbldkfoldjocaa
open Go.RowKit
open Cod
set_option maxRecDepth 100000 in
set_option maxHeartbeats 1000000 in
theorem refNum_any : ∀ (f n : Nat) (w : World), n < f → n ≤ 9223372036854775807 →
    Calls Try.prog 10 #[.int .i64 n] w fun e w' => ∃ v, e = .returned v ∧ Ow w.heap.size w' v (enc n) ∧ Below w.heap.size w w'
  | 0, _, _, h, _ => absurd h (by omega)
  | f + 1, n, w, h, hn => by
    have h0 : ∀ o : Obj, Below w.heap.size w (w.alloc o) := fun o => (Below.refl _ _).alloc (Nat.le_refl _) o
    by_cases hk : n < 128
    · obtain ⟨c, hc⟩ : ∃ c, c = UInt8.ofNat n := ⟨_, rfl⟩
      have hcv : (n : Int) = ub c := by rw [hc]; unfold ub; rw [u8_small (by omega)]
      have HC : Hid (enc n = [c]) := by rw [hc]; exact enc_small hk
      have HO : Hid ((w.alloc (.cells #[.int .u8 (n : Int)] 5)).ownsRow w.heap.size 5 1 (.slice (some ⟨w.heap.size, 0, none⟩) 1 1) 1 (bcells [c])) := by
        rw [hcv]; exact own_lit w w.heap.size 5 (bcells [c]) 1 rfl (Nat.le_refl _) (by omega)
      clear hc hcv
      go_enter Try.func10, Try.ntmps10
      go_wp2_with fail
      go_ret
      refine ⟨_, rfl, ?_, h0 _⟩
      unfold Ow
      rw [HC.out]; exact HO.out
    · obtain ⟨c, hc⟩ : ∃ c, c = UInt8.ofNat (128 + n % 128) := ⟨_, rfl⟩
      have hcv : (n : Int) % 128 + 128 = ub c := by rw [hc]; unfold ub; rw [u8_big]; omega
      have HC : Hid (enc n = c :: enc (n / 128)) := by rw [hc]; exact enc_big (by omega)
      have HO : Hid ((w.alloc (.cells #[.int .u8 ((n : Int) % 128 + 128)] 5)).ownsRow w.heap.size 5 1 (.slice (some ⟨w.heap.size, 0, none⟩) 1 1) 1 (bcells [c])) := by
        rw [hcv]; exact own_lit w w.heap.size 5 (bcells [c]) 1 rfl (Nat.le_refl _) (by omega)
      have h9 := enc_len10 (v := n / 128) (by omega)
      clear hc hcv
      go_enter Try.func10, Try.ntmps10
      go_wp2_with fail
      refine (refNum_any f (n / 128) _ (by omega) (by omega)).mono ?_
      rintro e w1 ⟨v1, rfl, hown, hb1⟩
      have hO1 := own_below HO.out hb1
      obtain ⟨A1, c1, rfl, hsl1, _, _, _⟩ := hown.slice
      have hb01 := (h0 (.cells #[.int .u8 ((n : Int) % 128 + 128)] 5)).trans (hb1.mono (by simp))
      have hs01 := hb01.size
      go_wp2_with (refine wpList_app rfl (.tmp 12) (.tmp 15) 23 rfl bytesTy w.heap.size _ 1 (bcells [c]) rfl hO1 A1 (enc (n / 128)).length c1 (bcells (enc (n / 128))) rfl (bcells_len _) hsl1 (bcells_one _) (by omega) (by omega) ?_; intro v2 w2 hown2 hgr2 hbl2)
      have hbel2 := below_app hb01 hgr2 hO1 (Nat.le_refl _) (by omega)
      go_ret
      refine ⟨v2, rfl, ?_, hbel2⟩
      unfold Ow
      rw [HC.out, List.length_cons, Nat.add_comm]
      rw [bcells_app] at hown2
      exact hown2
theorem refNum (n : Nat) (w : World) (hn : n ≤ 9223372036854775807) :
    Calls Try.prog 10 #[.int .i64 n] w fun e w' => ∃ v, e = .returned v ∧ Ow w.heap.size w' v (enc n) ∧ Below w.heap.size w w' := refNum_any (n + 1) n w (by omega) hn
set_option maxRecDepth 100000 in
set_option maxHeartbeats 400000 in
theorem refText (s : ByteArray) (w : World) (hs : s.size ≤ 70368744177664) :
    Calls Try.prog 12 #[.string s] w fun e w' => ∃ v, e = .returned v ∧ Ow w.heap.size w' v (encT s.data.toList) ∧ Below w.heap.size w w' := by
  have HS : Hid (s.data.toList.length = s.size) := bsize s
  have h9 := enc_len10 (v := s.size) (by omega)
  go_enter Try.func12, Try.ntmps12
  go_wp2_with fail
  refine (refNum s.size _ (by omega)).mono ?_
  rintro e w1 ⟨v1, rfl, hown1, hb1⟩
  have hs1 := hb1.size
  unfold Ow at hown1
  go_wp2_with (refine wpList_apps rfl (.tmp 5) (.tmp 6) 23 9 rfl bytesTy underStr w.heap.size v1 (enc s.size) rfl hown1 s rfl (by omega) (by omega) ?_; intro v2 w2 hown2 hgr2)
  have hb2 := below_app hb1 hgr2 hown1 (Nat.le_refl _) (by omega)
  go_ret
  refine ⟨v2, rfl, ?_, hb2⟩
  unfold Ow encT
  rw [HS.out]; exact hown2
set_option maxRecDepth 100000 in
set_option maxHeartbeats 1000000 in
theorem refList (A : Option Addr) (n c : Nat) (ss : List ByteArray) (w : World) (hn : ss.length = n) (hA : Sl w A (scells ss)) (hn63 : n ≤ 70368744177664) (h45 : (encL (sbytes ss)).length ≤ 35184372088832) :
    Calls Try.prog 14 #[.slice A n c] w fun e w' => ∃ v, e = .returned v ∧ Ow w.heap.size w' v (encL (sbytes ss)) ∧ Below w.heap.size w w' := by
  have HN : Hid (ss.length = n) := hn
  have HSN : Hid ((sbytes ss).length = n) := by show _ = _; rw [sbytes_len, hn]
  have HE : Hid (encL (sbytes ss) = enc n ++ encI (sbytes ss)) := by show _ = _; unfold encL; rw [HSN.out]
  have hel : (enc n).length + (encI (sbytes ss)).length ≤ 35184372088832 := by rw [HE.out, List.length_append] at h45; omega
  clear hn h45
  go_enter Try.func14, Try.ntmps14
  go_wp2_with fail
  refine (refNum n _ (by omega)).mono ?_
  rintro e w2 ⟨v2, rfl, hown2, hb12⟩
  go_wp2_with fail
  go_loopw [3, 4] (fun v i wr => ∃ k : Nat, k ≤ n ∧ i = .int .i64 k ∧ Ow w.heap.size wr v (enc n ++ encI ((sbytes ss).take k)) ∧ Below w.heap.size w wr)
    (fun _ i _ => n - (intOf i).toNat)
  case atStart => exact ⟨0, by omega, rfl, by simpa [encI] using hown2, hb12⟩
  case round =>
    clear hown2 hb12
    obtain ⟨k, hk, rfl, hown, hbel⟩ := hrel
    by_cases hlt : k < n
    · obtain ⟨b, o, rfl, hblt, hcell⟩ := (hA.get (j := k) (by rw [scells_len, HN.out]; exact hlt))
      have hc0 := hcell k _ (scells_get ss k (by rw [HN.out]; exact hlt))
      have hX : encI ((sbytes ss).take (k + 1)) = encI ((sbytes ss).take k) ++ encT (ss.getD k ⟨#[]⟩).data.toList := by
        rw [encI_snoc _ k (by rw [HSN.out]; exact hlt), sbytes_get _ k (by rw [HN.out]; exact hlt)]
      have hle := encI_take_le (sbytes ss) (k + 1)
      have hcw := (hbel.cell (p := ⟨b, o + k, none⟩) hblt).trans hc0
      have HX : Hid (encI ((sbytes ss).take (k + 1)) = encI ((sbytes ss).take k) ++ encT (ss.getD k ⟨#[]⟩).data.toList) := hX
      have h1 := le_encT (ss.getD k ⟨#[]⟩).data.toList
      rw [hX, List.length_append] at hle
      rw [bsize] at h1
      clear hX hcell hc0
      generalize ss.getD k ⟨#[]⟩ = s at *
      have hlen : (enc n ++ encI ((sbytes ss).take k)).length + (encT s.data.toList).length ≤ 35184372088832 := by
        rw [List.length_append]; omega
      have hsl := hbel.size
      go_wp2_with fail
      refine (refText s _ (by omega)).mono ?_
      rintro e w3 ⟨v3, rfl, hown3, hb3⟩
      have hbel3 := hbel.trans (hb3.mono hsl)
      have hsl3 := hb3.size
      obtain ⟨A3, c3, rfl, hsl3', _, _, _⟩ := hown3.slice
      have hownB := hown.below hb3
      unfold Ow at hownB
      clear h1 hle hown hown3 hcw
      go_wp2_with (refine wpList_app rfl (.tmp 14) (.tmp 19) 23 rfl bytesTy w.heap.size u3 _ _ rfl hownB A3 _ c3 (bcells (encT s.data.toList)) rfl (bcells_len _) hsl3' (bcells_one _) (by omega) (by omega) ?_; intro v4 w4 hown4 hgr4 hbl4)
      have hbel4 := below_app hbel3 hgr4 hownB (Nat.le_refl _) (by omega)
      go_roundw
      case rel =>
        refine ⟨k + 1, by omega, by go_num, ?_, hbel4⟩
        unfold Ow
        rw [HX.out, ← List.append_assoc, List.length_append (bs := encT s.data.toList), ← bcells_app]; exact hown4
      case measure => simp [intOf]; omega
    · have hk8 : k = n := by omega
      go_wp2_with fail
      go_ret
      refine ⟨u3, rfl, ?_, hbel⟩
      rw [HE.out]
      rw [hk8, List.take_of_length_le (Nat.le_of_eq HSN.out)] at hown
      exact hown
end Go.Proofs.Ytpbldkfoldjocaa
