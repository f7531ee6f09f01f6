/- utf: what stands first in bytes, in the document's words and in the program's. Nothing of the dump but the join's plain words. -/
import Derived.Test.YtpnnebnjkinndaaDoorUg
namespace Go.Proofs.YtpnnebnjkinndaaDoor.UtfW
open Go.RowKit
def least4 (k : Nat) : Nat := match k with | 0 => 0 | 1 => 128 | 2 => 2048 | _ => 65536
def mark4 (k : Nat) : Nat := match k with | 0 => 0 | 1 => 192 | 2 => 224 | _ => 240
def end4 (k : Nat) : Nat := match k with | 0 => 128 | 1 => 224 | 2 => 240 | _ => 248
theorem by8_of {n : Nat} {x : UInt8} (h : n = x.toNat) : by8 n = x := by subst h; unfold by8; simp
/-- A character of k further bytes. -/
def Has (h : UInt8) (t : List UInt8) (k c : Nat) : Prop := mark4 k ≤ h.toNat ∧ h.toNat < end4 k ∧ joinS (h.toNat - mark4 k) t k = some c ∧ least4 k ≤ c ∧ rightC (c : Int)
theorem joinL_one {m c : Nat} {x : UInt8} {xs : List UInt8} (h : joinL m (x :: xs) = some c) : 128 ≤ x.toNat ∧ x.toNat < 192 ∧ joinL (m * 64 + (x.toNat - 128)) xs = some c := by
  unfold joinL at h
  by_cases h1 : x.toNat < 128 ∨ 192 ≤ x.toNat
  · rw [if_pos h1] at h; cases h
  · rw [if_neg h1] at h; exact ⟨by omega, by omega, h⟩
set_option maxRecDepth 1000000 in
theorem has_enc {h : UInt8} {t : List UInt8} {k c : Nat} (hk : k < 4) (H : Has h t k c) : ∃ r, h :: t = encU c ++ r ∧ (encU c).length = k + 1 := by
  obtain ⟨h1, h2, h3, h4, h5⟩ := H
  have hlt := rightC_lt h5
  unfold joinS at h3
  by_cases hl : t.length < k
  · rw [if_pos hl] at h3; cases h3
  rw [if_neg hl] at h3
  match k, hk with
  | 0, _ =>
    simp only [mark4, end4, least4, List.take_zero, joinL, Option.some.injEq] at *
    refine ⟨t, ?_, ?_⟩
    · rw [enc1 (by omega), by8_of (x := h) (by omega)]; rfl
    · rw [enc1 (by omega)]; rfl
  | 1, _ =>
    obtain ⟨x, t, rfl⟩ : ∃ x t', t = x :: t' := by
      cases t with
      | nil => simp at hl
      | cons x t => exact ⟨x, t, rfl⟩
    obtain ⟨a1, a2, h3⟩ := joinL_one h3
    simp only [mark4, end4, least4, List.take_zero, joinL, Option.some.injEq] at *
    refine ⟨t, ?_, ?_⟩
    · rw [enc2 (by omega) (by omega), by8_of (x := h) (by omega), by8_of (x := x) (by omega)]; rfl
    · rw [enc2 (by omega) (by omega)]; rfl
  | 2, _ =>
    obtain ⟨x, y, t, rfl⟩ : ∃ x y t', t = x :: y :: t' := by
      match t, hl with
      | [], hl => simp at hl
      | [_], hl => simp at hl
      | x :: y :: t, _ => exact ⟨x, y, t, rfl⟩
    obtain ⟨a1, a2, h3⟩ := joinL_one h3
    obtain ⟨a3, a4, h3⟩ := joinL_one h3
    simp only [mark4, end4, least4, List.take_zero, joinL, Option.some.injEq] at *
    refine ⟨t, ?_, ?_⟩
    · rw [enc3 (by omega) (by omega), by8_of (x := h) (by omega), by8_of (x := x) (by omega), by8_of (x := y) (by omega)]; rfl
    · rw [enc3 (by omega) (by omega)]; rfl
  | 3, _ =>
    obtain ⟨x, y, z, t, rfl⟩ : ∃ x y z t', t = x :: y :: z :: t' := by
      match t, hl with
      | [], hl => simp at hl
      | [_], hl => simp at hl
      | [_, _], hl => simp at hl
      | x :: y :: z :: t, _ => exact ⟨x, y, z, t, rfl⟩
    obtain ⟨a1, a2, h3⟩ := joinL_one h3
    obtain ⟨a3, a4, h3⟩ := joinL_one h3
    obtain ⟨a5, a6, h3⟩ := joinL_one h3
    simp only [mark4, end4, least4, List.take_zero, joinL, Option.some.injEq] at *
    refine ⟨t, ?_, ?_⟩
    · rw [enc4 (by omega), by8_of (x := h) (by omega), by8_of (x := x) (by omega), by8_of (x := y) (by omega), by8_of (x := z) (by omega)]; rfl
    · rw [enc4 (by omega)]; rfl
theorem one_yes {h : UInt8} {t : List UInt8} {k c : Nat} (hk : k < 4) (H : Has h t k c) : one (h :: t) = (c, k + 1) := by
  obtain ⟨r, h1, h2⟩ := has_enc hk H
  rw [h1, one_enc H.2.2.2.2, h2]
theorem joinL_cont {m : Nat} {x : UInt8} {xs : List UInt8} (h1 : 128 ≤ x.toNat) (h2 : x.toNat < 192) : joinL m (x :: xs) = joinL (m * 64 + (x.toNat - 128)) xs := by
  conv => lhs; unfold joinL
  rw [if_neg (by omega)]
/-- What begins with a character has it, in the program's words. -/
theorem enc_has {h : UInt8} {t : List UInt8} {c : Nat} {r : List UInt8} (hr : rightC (c : Int)) (he : h :: t = encU c ++ r) : ∃ k, k < 4 ∧ Has h t k c := by
  have hlt := rightC_lt hr
  rcases sizes c with h0 | ⟨h0, h1⟩ | ⟨h0, h1⟩ | h0
  · rw [enc1 h0] at he
    simp only [List.cons_append, List.nil_append, List.cons.injEq] at he
    obtain ⟨rfl, rfl⟩ := he
    refine ⟨0, by omega, ?_⟩
    unfold Has
    rw [by8_nat _ (by omega)]
    refine ⟨Nat.zero_le _, h0, ?_, Nat.zero_le _, hr⟩
    simp [joinS, joinL, mark4]
  · rw [enc2 h0 h1] at he
    simp only [List.cons_append, List.nil_append, List.cons.injEq] at he
    obtain ⟨rfl, rfl⟩ := he
    refine ⟨1, by omega, ?_⟩
    unfold Has
    rw [by8_nat _ (by omega)]
    refine ⟨by simp only [mark4]; omega, by simp only [end4]; omega, ?_, by simp only [least4]; omega, hr⟩
    unfold joinS
    rw [if_neg (by simp)]
    simp only [mark4, List.take_succ_cons, List.take_zero]
    rw [joinL_cont (by rw [by8_nat _ (by omega)]; omega) (by rw [by8_nat _ (by omega)]; omega), by8_nat _ (by omega)]
    simp only [joinL, Option.some.injEq]
    omega
  · rw [enc3 h0 h1] at he
    simp only [List.cons_append, List.nil_append, List.cons.injEq] at he
    obtain ⟨rfl, rfl⟩ := he
    refine ⟨2, by omega, ?_⟩
    unfold Has
    rw [by8_nat _ (by omega)]
    refine ⟨by simp only [mark4]; omega, by simp only [end4]; omega, ?_, by simp only [least4]; omega, hr⟩
    unfold joinS
    rw [if_neg (by simp)]
    simp only [mark4, List.take_succ_cons, List.take_zero]
    rw [joinL_cont (by rw [by8_nat _ (by omega)]; omega) (by rw [by8_nat _ (by omega)]; omega), by8_nat _ (by omega), joinL_cont (by rw [by8_nat _ (by omega)]; omega) (by rw [by8_nat _ (by omega)]; omega), by8_nat _ (by omega)]
    simp only [joinL, Option.some.injEq]
    omega
  · rw [enc4 h0] at he
    simp only [List.cons_append, List.nil_append, List.cons.injEq] at he
    obtain ⟨rfl, rfl⟩ := he
    refine ⟨3, by omega, ?_⟩
    unfold Has
    rw [by8_nat _ (by omega)]
    refine ⟨by simp only [mark4]; omega, by simp only [end4]; omega, ?_, by simp only [least4]; omega, hr⟩
    unfold joinS
    rw [if_neg (by simp)]
    simp only [mark4, List.take_succ_cons, List.take_zero]
    rw [joinL_cont (by rw [by8_nat _ (by omega)]; omega) (by rw [by8_nat _ (by omega)]; omega), by8_nat _ (by omega), joinL_cont (by rw [by8_nat _ (by omega)]; omega) (by rw [by8_nat _ (by omega)]; omega), by8_nat _ (by omega), joinL_cont (by rw [by8_nat _ (by omega)]; omega) (by rw [by8_nat _ (by omega)]; omega), by8_nat _ (by omega)]
    simp only [joinL, Option.some.injEq]
    omega
/-- Where there is none. -/
theorem one_no {h : UInt8} {t : List UInt8} (H : ∀ k c, k < 4 → ¬ Has h t k c) : one (h :: t) = (65533, 1) := by
  unfold one
  rw [if_neg]
  intro h1
  obtain ⟨h2, h3, h4⟩ := h1
  generalize lenB ((h :: t).getD 0 0) = n at *
  have h0 : 0 ≤ valU (h :: t) n := by unfold rightC at h3; omega
  have e : ((valU (h :: t) n).toNat : Int) = valU (h :: t) n := Int.toNat_of_nonneg h0
  obtain ⟨k, hk, hh⟩ := enc_has (h := h) (t := t) (c := (valU (h :: t) n).toNat) (r := (h :: t).drop n) (by rw [e]; exact h3) (by rw [h4, List.take_append_drop])
  exact H k _ hk hh
theorem mark_unique {n k k' : Nat} (hk : k < 4) (hk' : k' < 4) (h1 : mark4 k ≤ n) (h2 : n < end4 k) (h3 : mark4 k' ≤ n) (h4 : n < end4 k') : k' = k := by
  have a : k = 0 ∨ k = 1 ∨ k = 2 ∨ k = 3 := by omega
  have b : k' = 0 ∨ k' = 1 ∨ k' = 2 ∨ k' = 3 := by omega
  rcases a with rfl | rfl | rfl | rfl <;> rcases b with rfl | rfl | rfl | rfl <;> simp only [mark4, end4] at * <;> omega
/-- A byte begins with one mark alone. -/
theorem has_unique {h : UInt8} {t : List UInt8} {k c : Nat} {k' : Nat} (hk : k < 4) (hk' : k' < 4) (h1 : mark4 k ≤ h.toNat) (h2 : h.toNat < end4 k) (H : Has h t k' c) : k' = k :=
  mark_unique hk hk' h1 h2 H.1 H.2.1
end Go.Proofs.YtpnnebnjkinndaaDoor.UtfW
