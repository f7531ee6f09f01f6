/- code: own, putNum, Num. -/
import Derived.Test.YtpbldkfoldjocaaRows
import Derived.Test.YtpbldkfoldjocaaCs
import Derived.Test.YtpbldkfoldjocaaMem
import Derived.Outline
namespace Go.Proofs.Ytpbldkfoldjocaa
open Go.RowKit
open Cod
theorem bytesTy : ElemTy Try.prog 23 5 (.int .u8 0) 1 :=
  ⟨by kernel_rfl, info_parts (by kernel_rfl), rfl, by omega⟩
theorem underBytes : Try.prog.underlying 23 = some (.slice 5) := by kernel_rfl
theorem underU8 : Try.prog.underlying 5 = some (.int .u8) := by kernel_rfl
theorem underStr : Try.prog.underlying 9 = some .string := by kernel_rfl
theorem infoU8 : (Try.prog.info? 5).map (·.size) = some 1 := by kernel_rfl
/-- A value that is a slice of bytes of the call's own, and reads as these. -/
def Ow (base : Nat) (w : World) (v : Value) (bs : List UInt8) : Prop := w.ownsRow base 5 1 v bs.length (bcells bs)
theorem Ow.nil (base : Nat) (w : World) : Ow base w (.slice none 0 0) [] := World.ownsRow_nil _ _ _ _
theorem Ow.slice {base : Nat} {w : World} {v : Value} {bs : List UInt8} (h : Ow base w v bs) : ∃ A c, v = .slice A bs.length c ∧ Sl w A (bcells bs) ∧ bs.length ≤ c ∧ c ≤ maxLen ∧ (∀ b o s, A = some ⟨b, o, s⟩ → base ≤ b) := by
  obtain ⟨A, c, h1, h2, h3, _, h5, h6⟩ := own_slice h
  exact ⟨A, c, h1, h2, h3, h5, h6⟩
theorem Ow.mono {b b' : Nat} {w : World} {v : Value} {bs : List UInt8} (h : Ow b w v bs) (hb : b' ≤ b) : Ow b' w v bs := by
  refine ⟨h.1, ?_⟩
  rcases h.2 with h2 | ⟨g, cap, cur, h3, h4, h5⟩
  · exact .inl h2
  · exact .inr ⟨g, cap, cur, h3, Nat.le_trans hb h4, h5⟩
theorem own_below {B : Nat} {e : TypeId} {k : Nat} {v : Value} {n : Nat} {xs : List Value} {w w' : World} (h : w.ownsRow B e k v n xs) (hb : Below w.heap.size w w') : w'.ownsRow B e k v n xs :=
  h.kept (row := none) ⟨hb.os, hb.tape, hb.output, hb.size, fun j hj _ => hb.block j hj⟩ (by cases hv : v.ownBlock <;> simp)
theorem Ow.below {B : Nat} {v : Value} {bs : List UInt8} {w w' : World} (h : Ow B w v bs) (hb : Below w.heap.size w w') : Ow B w' v bs := own_below h hb
set_option maxRecDepth 100000 in
set_option maxHeartbeats 400000 in
theorem own_any (B : Option Addr) (l d : Nat) (bs : List UInt8) (w : World) (hl : bs.length = l) (hb : Sl w B (bcells bs)) (h47 : l ≤ 140737488355328) :
    Calls Try.prog 21 #[.slice B l d] w fun e w' => ∃ v, e = .returned v ∧ Ow w.heap.size w' v bs ∧ Below w.heap.size w w' := by
  have HL : Hid (bs.length = l) := hl
  clear hl
  go_enter Try.func21, Try.ntmps21
  go_wp2_with (refine wpList_app rfl (.const (.slice none 0 0)) (.tmp 3) 23 rfl bytesTy w.heap.size (.slice none 0 0) 0 [] rfl (World.ownsRow_nil _ _ _ _) B l d (bcells bs) rfl (by rw [bcells_len]; exact HL.out) hb (bcells_one _) (by omega) (Nat.le_refl _) ?_; intro v1 w1 hown1 hgr1 hbl1)
  simp only [Nat.zero_add, List.nil_append] at hown1
  have hbel := below_app (Below.refl w.heap.size w) hgr1 (World.ownsRow_nil w _ 5 _) (Nat.le_refl _) (Nat.le_refl _)
  go_ret
  refine ⟨v1, rfl, ?_, hbel⟩
  unfold Ow
  rw [HL.out]
  exact hown1
theorem or128 (k : Nat) : bits .or .u8 128 ((k : Int) % 128) = ub (UInt8.ofNat (128 + k % 128)) := by
  have h : ∀ m : Fin 128, bits .or .u8 128 ((m.val : Int)) = ub (UInt8.ofNat (128 + m.val)) := by decide
  have := h ⟨k % 128, Nat.mod_lt _ (by omega)⟩
  simpa using this
set_option maxRecDepth 100000 in
set_option maxHeartbeats 400000 in
theorem putNum_any (base : Nat) (v0 : Value) (bs : List UInt8) (n : Nat) (w : World) (hown : Ow base w v0 bs) (hn : n ≤ 9223372036854775807) (hl : bs.length ≤ 70368744177664) (hbase : base ≤ w.heap.size) :
    Calls Try.prog 20 #[v0, .int .i64 n] w fun e w' => ∃ v, e = .returned v ∧ Ow base w' v (bs ++ enc n) ∧ Below base w w' := by
  go_enter Try.func20, Try.ntmps20
  go_wp2_with fail
  go_loopw [0, 1] (fun b v wr => ∃ (k : Nat) (dn : List UInt8), k ≤ n ∧ v = .int .i64 k ∧ Hid (enc n = dn ++ enc k) ∧ Ow base wr b (bs ++ dn) ∧ Below base w wr ∧ base ≤ wr.heap.size)
    (fun _ v _ => (intOf v).toNat)
  case atStart => exact ⟨n, [], Nat.le_refl _, rfl, rfl, by simpa using hown, Below.refl _ _, hbase⟩
  case round =>
    clear hown
    obtain ⟨k, dn, hkn, rfl, HE, hown, hbel, hsz⟩ := hrel
    have hdl : dn.length ≤ 9 := by
      have h1 := enc_len10 (v := n) (by omega)
      rw [HE.out, List.length_append] at h1
      omega
    have hsl : ∀ (W : World) (c : UInt8), Sl (W.alloc (.cells #[.int .u8 (ub c)] 5)) (some ⟨W.heap.size, 0, none⟩) (bcells [c]) := fun W c => Sl.of_at_all (At.new_ _ _ 5 (bcells [c]) rfl)
    have HSL : Hid (∀ (W : World) (c : UInt8), Sl (W.alloc (.cells #[.int .u8 (ub c)] 5)) (some ⟨W.heap.size, 0, none⟩) (bcells [c])) := hsl
    have HD : Hid (bs.length + dn.length = (bs ++ dn).length) := List.length_append.symm
    have hbel1 := fun (o : Obj) => hbel.alloc hsz o
    have HB : Hid (∀ o : Obj, Below base w (wr.alloc o)) := hbel1
    clear hsl hbel1
    unfold Ow at hown
    by_cases hk : 128 ≤ k
    · obtain ⟨c, hc⟩ : ∃ c, c = UInt8.ofNat (128 + k % 128) := ⟨_, rfl⟩
      have hor : bits .or .u8 128 ((k : Int) % 128) = ub c := by rw [hc, or128 k]
      have HC : Hid (enc k = c :: enc (k / 128)) := by rw [hc]; exact enc_big hk
      clear hc
      go_wp2_with (refine wpList_app rfl (.tmp 7) (.tmp 12) 23 rfl bytesTy base u0 (bs ++ dn).length (bcells (bs ++ dn)) rfl (hown.alloc _) _ 1 1 (bcells [c]) rfl rfl (HSL.out _ _) (bcells_one _) (by rw [← HD.out]; omega) (by simp; omega) ?_; intro v1 w1 hown1 hgr1 hbl1)
      have hbel2 := below_app (HB.out _) hgr1 (hown.alloc (.cells #[.int .u8 (ub c)] 5)) (Nat.le_refl _) (by simp; omega)
      have hsz2 := hbel2.size
      go_roundw
      case rel =>
        refine ⟨k / 128, dn ++ [c], by omega, by go_num, ?_, ?_, hbel2, by omega⟩
        · show _ = _
          rw [HE.out, HC.out, List.append_assoc]; rfl
        · unfold Ow
          rw [← List.append_assoc, List.length_append, ← bcells_app]; exact hown1
      case measure => simp [intOf]; omega
    · obtain ⟨c, hc⟩ : ∃ c, c = UInt8.ofNat k := ⟨_, rfl⟩
      have hcv : (k : Int) = ub c := by rw [hc]; unfold ub; rw [u8_small (by omega)]
      have HC : Hid (enc k = [c]) := by rw [hc]; exact enc_small (by omega)
      have HCV : Hid ((k : Int) = ub c) := hcv
      have HSK : Hid (∀ (W : World), Sl (W.alloc (.cells #[.int .u8 (k : Int)] 5)) (some ⟨W.heap.size, 0, none⟩) (bcells [c])) := by
        intro W; rw [hcv]; exact HSL.out W c
      clear hc hcv
      go_wp2_with (refine wpList_app rfl (.tmp 16) (.tmp 19) 23 rfl bytesTy base u0 (bs ++ dn).length (bcells (bs ++ dn)) rfl (hown.alloc _) _ 1 1 (bcells [c]) rfl rfl (HSK.out _) (bcells_one _) (by rw [← HD.out]; omega) (by simp; omega) ?_; intro v1 w1 hown1 hgr1 hbl1)
      have hbel2 := below_app (HB.out _) hgr1 (hown.alloc (.cells #[.int .u8 (k : Int)] 5)) (Nat.le_refl _) (by simp; omega)
      go_ret
      refine ⟨v1, rfl, ?_, hbel2⟩
      unfold Ow
      rw [HE.out, HC.out, ← List.append_assoc, List.length_append, ← bcells_app]; exact hown1
/-- code.Num, where the number may be. -/
theorem num_any (B : Option Addr) (l d : Nat) (bs : List UInt8) (n : Nat) (w : World) (hl : bs.length = l) (hb : Sl w B (bcells bs)) (hn : n ≤ 4611686018427387904) (h46 : l ≤ 70368744177664) :
    Calls Try.prog 9 #[.slice B l d, .int .i64 n] w fun e w' => ∃ v, e = .returned (.tuple #[v, .int .i64 0]) ∧ Ow w.heap.size w' v (bs ++ enc n) ∧ Below w.heap.size w w' := by
  have HL : Hid (bs.length = l) := hl
  clear hl
  go_enter Try.func9, Try.ntmps9
  go_wp2_with fail
  refine (own_any B l d bs _ HL.out hb (by omega)).mono ?_
  rintro e w1 ⟨v1, rfl, hown, hb1⟩
  go_wp2_with fail
  refine (putNum_any w.heap.size v1 bs n _ hown (by omega) (by rw [HL.out]; omega) hb1.size).mono ?_
  rintro e w2 ⟨v2, rfl, hown2, hb2⟩
  go_wp2_with fail
  go_ret2
  exact ⟨v2, rfl, hown2, hb1.trans hb2⟩
/-- code.Num, where it may not. -/
theorem num_bad (B : Option Addr) (l d : Nat) (n : Int) (w : World) (hn : n < 0 ∨ 4611686018427387904 < n) :
    Calls Try.prog 9 #[.slice B l d, .int .i64 n] w fun e w' => e = .returned (.tuple #[.slice none 0 0, .int .i64 1]) ∧ w = w' := by
  rcases hn with h | h
  · go_enter Try.func9, Try.ntmps9
    go_wp2_with fail
    go_ret2
    exact ⟨rfl, rfl⟩
  · have h0 : 0 ≤ n := by omega
    go_enter Try.func9, Try.ntmps9
    go_wp2_with fail
    go_ret2
    exact ⟨rfl, rfl⟩
end Go.Proofs.Ytpbldkfoldjocaa
