import Derived.Test.YtfaheebinkmjlaaDoorB3
namespace Go.Proofs.YtfaheebinkmjlaaDoor
open Go.RowKit
open Sha
theorem val_u8 {a b : Int} (h : a = b) : Value.int .u8 a = Value.int .u8 b := by rw [h]
theorem str_eq (s : ByteArray) (l : List UInt8) : (ByteArray.mk l.toArray = s) ↔ l = s.data.toList := by
  constructor
  · rintro rfl; rfl
  · rintro rfl; rfl
/-- What the reference's reading answers. -/
def RHP (w : World) (l : List UInt8) (e : Ending) (w' : World) : Prop := ∃ str code ok, e = .returned (.tuple #[.string ⟨str.toArray⟩, .bool ok]) ∧ FH l str code ∧ (ok = true ↔ code = 0) ∧ Below w.heap.size w w'
set_option maxRecDepth 100000 in
set_option maxHeartbeats 1000000 in
theorem refFromHex_any (s : ByteArray) (w : World) (hs : s.size ≤ 1099511627776) :
    Calls Tryd.prog 15 #[.string s] w (RHP w s.data.toList) := by
  have HL : Hid (s.data.toList.length = s.size) := Array.length_toList
  by_cases hodd : (s.size : Int) % 2 = 1
  · have hodd' : ((s.size : Int) % 2 == 1) = true := by simp [hodd]
    have hno : ¬ (s.data.toList.length % 2 = 0 ∧ okHex s.data.toList s.data.toList.length) := fun h => by
      have := h.1; rw [HL.out] at this; omega
    have HNO : Hid (¬ (s.data.toList.length % 2 = 0 ∧ okHex s.data.toList s.data.toList.length)) := hno
    clear hno hodd
    go_enter Tryd.func15, Tryd.ntmps15
    go_wp2_with fail
    go_ret2
    exact ⟨[], 2, false, rfl, .inr ⟨HNO.out, rfl, rfl⟩, by simp, Below.refl _ _⟩
  · have hodd' : ((s.size : Int) % 2 == 1) = false := by simpa using hodd
    have HO : Hid (s.size % 2 = 0) := by show _ = _; omega
    clear hodd
    go_enter Tryd.func15, Tryd.ntmps15
    go_wp2_with fail
    go_loopw [4, 5] (fun v i wr => ∃ k : Nat, 2 * k ≤ s.size ∧ i = .int .i64 (2 * (k : Int)) ∧ wr.ownsRow w.heap.size 5 1 v k (bcells (refDec s.data.toList k)) ∧ Below w.heap.size w wr)
      (fun _ i _ => s.size - (intOf i).toNat)
    case atStart => exact ⟨0, by omega, rfl, World.ownsRow_nil _ _ _ _, Below.refl _ _⟩
    case round =>
      obtain ⟨k, hk, rfl, hown, hbel⟩ := hrel
      by_cases hlt : 2 * k < s.size
      · have hlt2 : 2 * k + 1 < s.size := by have := HO.out; omega
        obtain ⟨x, hx⟩ : ∃ x, x = s.data.toList.getD (2 * k) 0 := ⟨_, rfl⟩
        obtain ⟨y, hy⟩ : ∃ y, y = s.data.toList.getD (2 * k + 1) 0 := ⟨_, rfl⟩
        have HX : Hid (refDec s.data.toList (k + 1) = refDec s.data.toList k ++ [accW x y 2]) := by
          show _ = _; rw [refDec_succ, hx, hy]
        have HXX : Hid (x = s.data.toList.getD (2 * k) 0) := hx
        have HYY : Hid (y = s.data.toList.getD (2 * k + 1) 0) := hy
        clear hx hy
        have hbs := hbel.size
        go_wp2_with fail
        go_loop [6, 7] (fun v i => ∃ j : Nat, j ≤ 2 ∧ i = .int .i64 j ∧ v = .int .u8 (ub (accW x y j))) (fun _ i => 2 - (intOf i).toNat)
        case atStart => exact ⟨0, by omega, rfl, rfl⟩
        case round =>
          obtain ⟨j, hj, rfl, rfl⟩ := hrel
          by_cases hj2 : j < 2
          · obtain ⟨c, hc, hacc⟩ : ∃ c, s.data.toList.getD (2 * k + j) 0 = c ∧ accW x y (j + 1) = nibW (accW x y j) c := by
              refine ⟨_, rfl, ?_⟩
              match j, hj2 with
              | 0, _ => show accW x y 1 = nibW (accW x y 0) (s.data.toList.getD (2 * k) 0); rw [← HXX.out]; rfl
              | 1, _ => show accW x y 2 = nibW (accW x y 1) (s.data.toList.getD (2 * k + 1) 0); rw [← HYY.out]; rfl
            have hk0 := fun w' => run_stri (P := Tryd.prog) under9 w' s (2 * k + j) .i64 (by omega) (2 * (k : Int) + (j : Int)) (by omega)
            rw [hc] at hk0
            have HACC : Hid (accW x y (j + 1) = nibW (accW x y j) c) := hacc
            clear hacc hc
            generalize accW x y j = z at *
            have b1 := ub_lt c
            have b2 := ub_nn c
            have b3 := ub_lt z
            have b4 := ub_nn z
            by_cases h97 : 97 ≤ ub c
            · go_wp2_with fail
              go_round
              case rel => exact ⟨j + 1, by omega, by go_num, val_u8 (by rw [HACC.out, nib_hi' _ _ h97]; omega)⟩
              case measure => simp [intOf]; omega
            · have h97' : ub c < 97 := by omega
              clear h97
              go_wp2_with fail
              go_round
              case rel => exact ⟨j + 1, by omega, by go_num, val_u8 (by rw [HACC.out, nib_lo' _ _ h97']; omega)⟩
              case measure => simp [intOf]; omega
          · have hj3 : 2 ≤ j := by omega
            have HJ : Hid (accW x y j = accW x y 2) := by show _ = _; rw [show j = 2 by omega]
            clear hj2
            have HSL : Hid (∀ W : World, Sl (W.alloc (.cells #[.int .u8 (ub (accW x y j))] 5)) (some ⟨W.heap.size, 0, none⟩) (bcells [accW x y j])) := by
              intro W
              exact Sl.of_at_all (At.new_ _ _ 5 (bcells [accW x y j]) rfl)
            go_wp2_with (first
              | (at_builtin; refine wpList_app rfl (.tmp 41) (.tmp 43) 22 rfl bytesTy w.heap.size u4 k _ rfl (hown.alloc _) _ 1 1 (bcells [accW x y j]) rfl rfl (HSL.out _) (bcells_one _) (by omega) (by simp; omega) ?_; intro v2 w2 hown2 hgr2 hbl2))
            have hbel2 := below_app (hbel.alloc hbel.size (.cells #[.int .u8 (ub (accW x y j))] 5)) hgr2 (hown.alloc _) (Nat.le_refl _) (by simp; omega)
            go_roundw
            case rel =>
              refine ⟨k + 1, by omega, by go_num, ?_, hbel2⟩
              rw [HX.out, ← bcells_app, ← HJ.out]; exact hown2
            case measure => simp [intOf]; omega
      · have hk8 : s.size ≤ 2 * k := by omega
        have HK : Hid (k = s.data.toList.length / 2) := by show _ = _; rw [HL.out]; have := HO.out; omega
        obtain ⟨A, c, rfl, hsl, _, _⟩ := own_slice hown
        obtain ⟨out, hout⟩ : ∃ out, out = refDec s.data.toList k := ⟨_, rfl⟩
        have HOUT : Hid (out = refDec s.data.toList (s.data.toList.length / 2)) := by show _ = _; rw [hout, ← HK.out]
        have hol : out.length = k := by rw [hout, refDec_len]
        rw [← hout] at hsl hown
        clear hout
        have hstr := fun W (hb : Sl W A (bcells out)) => run_str (P := Tryd.prog) W 22 9 5 under22 under5 under9 A out k c hol hb
        have HE : Hid (s.data.toList.length % 2 = 0) := by show _ = _; rw [HL.out]; exact HO.out
        have hstr1 := hstr wr hsl
        have hsz : (ByteArray.mk out.toArray).size ≤ 1099511627776 := by show out.length ≤ _; omega
        have HST : Hid (∀ W, Sl W A (bcells out) → (convert 22 9 (.slice A k c)).run Tryd.prog W = .ok (.string ⟨out.toArray⟩) W) := hstr
        clear hstr hol hown
        go_wp2_with fail
        refine (refHex_any _ _ hsz).mono ?_
        rintro e w2 ⟨rfl, hb2⟩
        have hstr2 := HST.out w2 (hsl.below hb2)
        by_cases heq : hexL out = s.data.toList
        · have hne : (hexL out == s.toList) = true := by rw [ByteArray.toList_eq]; simp [heq]
          have hok : okHex s.data.toList s.data.toList.length := by have := ok_hex out; rw [heq] at this; exact this
          have hdec : out = decB s.data.toList (s.data.toList.length / 2) := by have := dec_hex out; rw [heq] at this; exact this.symm
          have HF : Hid (FH s.data.toList out 0) := .inl ⟨HE.out, hok, hdec, rfl⟩
          clear heq hok hdec hsz hstr1
          go_wp2_with fail
          go_ret2
          exact ⟨out, 0, true, rfl, HF.out, by simp, hbel.trans (hb2.mono hbel.size)⟩
        · have hne : (hexL out == s.toList) = false := by rw [ByteArray.toList_eq]; simp [heq]
          have hno : ¬ (s.data.toList.length % 2 = 0 ∧ okHex s.data.toList s.data.toList.length) := fun h => by
            have h1 := refDec_ok _ h.2 h.1
            rw [← HOUT.out] at h1
            have h2 := hex_dec _ h.1 h.2
            rw [← h1] at h2
            exact heq h2
          have HNO : Hid (¬ (s.data.toList.length % 2 = 0 ∧ okHex s.data.toList s.data.toList.length)) := hno
          clear heq hno hsz hstr1 hstr2
          go_wp2_with fail
          go_ret2
          exact ⟨[], 2, false, rfl, .inr ⟨HNO.out, rfl, rfl⟩, by simp, hbel.trans (hb2.mono hbel.size)⟩
end Go.Proofs.YtfaheebinkmjlaaDoor
