/- UTF-8 in plain words: characters, their bytes, and what bytes are decoded to. Nothing of the dump. -/
import Derived.Test.YtpnnebnjkinndaaDoorBase
namespace Go.Proofs.YtpnnebnjkinndaaDoor.UtfW
/-- Is this number a character? -/
def rightC (c : Int) : Prop := (0 ≤ c ∧ c < 55296) ∨ (57343 < c ∧ c < 1114112)
instance (c : Int) : Decidable (rightC c) := by unfold rightC; infer_instance
def by8 (n : Nat) : UInt8 := UInt8.ofNat n
theorem by8_nat (n : Nat) (h : n < 256) : (by8 n).toNat = n := by
  unfold by8; rw [UInt8.toNat_ofNat']; omega
/-- The bytes of a character. -/
def encU (c : Nat) : List UInt8 :=
  if c < 128 then [by8 c]
  else if c < 2048 then [by8 (192 + c / 64), by8 (128 + c % 64)]
  else if c < 65536 then [by8 (224 + c / 4096), by8 (128 + c / 64 % 64), by8 (128 + c % 64)]
  else [by8 (240 + c / 262144), by8 (128 + c / 4096 % 64), by8 (128 + c / 64 % 64), by8 (128 + c % 64)]
theorem enc1 {c : Nat} (h : c < 128) : encU c = [by8 c] := by unfold encU; rw [if_pos h]
theorem enc2 {c : Nat} (h : 128 ≤ c) (h' : c < 2048) : encU c = [by8 (192 + c / 64), by8 (128 + c % 64)] := by unfold encU; rw [if_neg (by omega), if_pos h']
theorem enc3 {c : Nat} (h : 2048 ≤ c) (h' : c < 65536) : encU c = [by8 (224 + c / 4096), by8 (128 + c / 64 % 64), by8 (128 + c % 64)] := by unfold encU; rw [if_neg (by omega), if_neg (by omega), if_pos h']
theorem enc4 {c : Nat} (h : 65536 ≤ c) : encU c = [by8 (240 + c / 262144), by8 (128 + c / 4096 % 64), by8 (128 + c / 64 % 64), by8 (128 + c % 64)] := by unfold encU; rw [if_neg (by omega), if_neg (by omega), if_neg (by omega)]
/-- The four sizes. -/
theorem sizes (c : Nat) : c < 128 ∨ (128 ≤ c ∧ c < 2048) ∨ (2048 ≤ c ∧ c < 65536) ∨ 65536 ≤ c := by omega
theorem encU_pos (c : Nat) : 1 ≤ (encU c).length := by
  rcases sizes c with h | ⟨h, h'⟩ | ⟨h, h'⟩ | h
  · rw [enc1 h]; simp
  · rw [enc2 h h']; simp
  · rw [enc3 h h']; simp
  · rw [enc4 h]; simp
theorem encU_le4 (c : Nat) : (encU c).length ≤ 4 := by
  rcases sizes c with h | ⟨h, h'⟩ | ⟨h, h'⟩ | h
  · rw [enc1 h]; simp
  · rw [enc2 h h']; simp
  · rw [enc3 h h']; simp
  · rw [enc4 h]; simp
/-- Of how many bytes an encoding is that begins so. -/
def lenB (b : UInt8) : Nat := if b.toNat < 128 then 1 else if b.toNat < 224 then 2 else if b.toNat < 240 then 3 else 4
/-- The number that bytes begin with, if they are of n bytes. -/
def at8 (b : List UInt8) (i : Nat) : Int := ((b.getD i 0).toNat : Int)
def valU (b : List UInt8) (n : Nat) : Int :=
  match n with
  | 1 => at8 b 0
  | 2 => (at8 b 0 - 192) * 64 + at8 b 1 - 128
  | 3 => ((at8 b 0 - 224) * 64 + at8 b 1 - 128) * 64 + at8 b 2 - 128
  | _ => (((at8 b 0 - 240) * 64 + at8 b 1 - 128) * 64 + at8 b 2 - 128) * 64 + at8 b 3 - 128
/-- Do bytes begin with a character of n bytes? -/
def okU (b : List UInt8) (n : Nat) : Prop := n ≤ b.length ∧ rightC (valU b n) ∧ encU (valU b n).toNat = b.take n
instance (b : List UInt8) (n : Nat) : Decidable (okU b n) := by unfold okU; infer_instance
/-- The first character, and of how many bytes it is. -/
def one (b : List UInt8) : Nat × Nat := if okU b (lenB (b.getD 0 0)) then ((valU b (lenB (b.getD 0 0))).toNat, lenB (b.getD 0 0)) else (65533, 1)
def decN : Nat → List UInt8 → List Nat
  | 0, _ => []
  | f + 1, b => if b = [] then [] else (one b).1 :: decN f (b.drop (one b).2)
def dec (b : List UInt8) : List Nat := decN b.length b
theorem lenB_pos (b : UInt8) : 1 ≤ lenB b := by unfold lenB; split <;> (try split) <;> (try split) <;> omega
theorem lenB_le (b : UInt8) : lenB b ≤ 4 := by unfold lenB; split <;> (try split) <;> (try split) <;> omega
theorem one_pos (b : List UInt8) : 1 ≤ (one b).2 := by
  unfold one; split
  · exact lenB_pos _
  · exact Nat.le_refl _
theorem one_le (b : List UInt8) (h : b ≠ []) : (one b).2 ≤ b.length := by
  unfold one; split
  · rename_i h1; exact h1.1
  · exact List.length_pos_iff.2 h
theorem decN_fuel : ∀ (f g : Nat) (b : List UInt8), b.length ≤ f → b.length ≤ g → decN f b = decN g b
  | 0, 0, _, _, _ => rfl
  | 0, g + 1, b, h, _ => by
    have : b = [] := List.eq_nil_of_length_eq_zero (by omega)
    subst this; rfl
  | f + 1, 0, b, _, h => by
    have : b = [] := List.eq_nil_of_length_eq_zero (by omega)
    subst this; rfl
  | f + 1, g + 1, b, h, h' => by
    unfold decN
    by_cases hb : b = []
    · rw [if_pos hb, if_pos hb]
    · rw [if_neg hb, if_neg hb]
      have := one_pos b
      rw [decN_fuel f g (b.drop (one b).2) (by rw [List.length_drop]; omega) (by rw [List.length_drop]; omega)]
theorem dec_nil : dec [] = [] := rfl
theorem dec_cons (b : List UInt8) (h : b ≠ []) : dec b = (one b).1 :: dec (b.drop (one b).2) := by
  have hl := List.length_pos_iff.2 h
  unfold dec
  obtain ⟨m, hm⟩ : ∃ m, b.length = m + 1 := ⟨b.length - 1, by omega⟩
  rw [hm]
  show (if b = [] then [] else _) = _
  rw [if_neg h]
  have := one_pos b
  rw [decN_fuel m (b.drop (one b).2).length _ (by rw [List.length_drop]; omega) (Nat.le_refl _)]
/-- There are never more characters than bytes. -/
theorem dec_len (b : List UInt8) : (dec b).length ≤ b.length := by
  have : ∀ (n : Nat) (b : List UInt8), b.length ≤ n → (dec b).length ≤ b.length := by
    intro n
    induction n with
    | zero => intro b h; rw [List.eq_nil_of_length_eq_zero (by omega : b.length = 0)]; simp [dec_nil]
    | succ n ih =>
      intro b h
      by_cases hb : b = []
      · subst hb; simp [dec_nil]
      · rw [dec_cons b hb]
        have h1 := one_pos b
        have h2 := one_le b hb
        have h3 := ih (b.drop (one b).2) (by rw [List.length_drop]; omega)
        rw [List.length_drop] at h3
        simp only [List.length_cons]; omega
  exact this _ b (Nat.le_refl _)
theorem rightC_lt {c : Nat} (h : rightC (c : Int)) : c < 1114112 := by unfold rightC at h; omega
/-- The bytes of a character begin with one that tells their number. -/
theorem lenB_enc {c : Nat} (hc : c < 1114112) (rest : List UInt8) : lenB ((encU c ++ rest).getD 0 0) = (encU c).length := by
  rcases sizes c with h | ⟨h, h'⟩ | ⟨h, h'⟩ | h
  · rw [enc1 h]
    show lenB (by8 c) = 1
    unfold lenB; rw [by8_nat _ (by omega), if_pos (by omega)]
  · rw [enc2 h h']
    show lenB (by8 (192 + c / 64)) = 2
    unfold lenB; rw [by8_nat _ (by omega), if_neg (by omega), if_pos (by omega)]
  · rw [enc3 h h']
    show lenB (by8 (224 + c / 4096)) = 3
    unfold lenB; rw [by8_nat _ (by omega), if_neg (by omega), if_neg (by omega), if_pos (by omega)]
  · rw [enc4 h]
    show lenB (by8 (240 + c / 262144)) = 4
    unfold lenB; rw [by8_nat _ (by omega), if_neg (by omega), if_neg (by omega), if_neg (by omega)]
theorem valU_enc {c : Nat} (hc : c < 1114112) (rest : List UInt8) : valU (encU c ++ rest) (encU c).length = (c : Int) := by
  rcases sizes c with h | ⟨h, h'⟩ | ⟨h, h'⟩ | h
  · rw [enc1 h]
    show ((by8 c).toNat : Int) = c
    rw [by8_nat _ (by omega)]
  · rw [enc2 h h']
    show (((by8 (192 + c / 64)).toNat : Int) - 192) * 64 + ((by8 (128 + c % 64)).toNat : Int) - 128 = c
    rw [by8_nat _ (by omega), by8_nat _ (by omega)]; omega
  · rw [enc3 h h']
    show ((((by8 (224 + c / 4096)).toNat : Int) - 224) * 64 + ((by8 (128 + c / 64 % 64)).toNat : Int) - 128) * 64 + ((by8 (128 + c % 64)).toNat : Int) - 128 = c
    rw [by8_nat _ (by omega), by8_nat _ (by omega), by8_nat _ (by omega)]; omega
  · rw [enc4 h]
    show (((((by8 (240 + c / 262144)).toNat : Int) - 240) * 64 + ((by8 (128 + c / 4096 % 64)).toNat : Int) - 128) * 64 + ((by8 (128 + c / 64 % 64)).toNat : Int) - 128) * 64 + ((by8 (128 + c % 64)).toNat : Int) - 128 = c
    rw [by8_nat _ (by omega), by8_nat _ (by omega), by8_nat _ (by omega), by8_nat _ (by omega)]; omega
/-- What begins with a character's bytes begins with that character. -/
theorem one_enc {c : Nat} (h : rightC (c : Int)) (rest : List UInt8) : one (encU c ++ rest) = (c, (encU c).length) := by
  have hc := rightC_lt h
  unfold one
  rw [lenB_enc hc]
  have hv := valU_enc hc rest
  rw [if_pos ⟨by rw [List.length_append]; omega, by rw [hv]; exact h, by rw [hv, List.take_left]; rfl⟩, hv]
  rfl
theorem dec_enc {c : Nat} (h : rightC (c : Int)) (rest : List UInt8) : dec (encU c ++ rest) = c :: dec rest := by
  have hne : encU c ++ rest ≠ [] := by
    intro h0
    have h1 := encU_pos c
    rw [(List.append_eq_nil_iff.1 h0).1] at h1
    simp at h1
  rw [dec_cons _ hne, one_enc h, List.drop_left]
/-- P4.3 -/
theorem dec_back (l : List Nat) (h : ∀ c ∈ l, rightC (c : Int)) : dec (l.flatMap encU) = l := by
  induction l with
  | nil => rfl
  | cons c l ih =>
    rw [List.flatMap_cons, dec_enc (h c (by simp)), ih fun x hx => h x (by simp [hx])]
/-- What is not Bad is a character, of just these bytes. -/
theorem one_ok {b : List UInt8} (h : (one b).1 ≠ 65533) : rightC ((one b).1 : Int) ∧ encU (one b).1 = b.take (one b).2 ∧ (one b).2 = (encU (one b).1).length := by
  unfold one at h ⊢
  split
  · rename_i h1
    rw [if_pos h1] at h
    obtain ⟨h2, h3, h4⟩ := h1
    have h0 : 0 ≤ valU b (lenB (b.getD 0 0)) := by unfold rightC at h3; omega
    refine ⟨by rw [Int.toNat_of_nonneg h0]; exact h3, h4, ?_⟩
    show _ = _
    rw [h4, List.length_take]; omega
  · rename_i h1; rw [if_neg h1] at h; exact absurd rfl h
/-- P4.4 -/
theorem dec_only : ∀ (n : Nat) (b : List UInt8), b.length ≤ n → (∀ c ∈ dec b, c ≠ 65533) → (dec b).flatMap encU = b ∧ ∀ c ∈ dec b, rightC ((c : Nat) : Int)
  | 0, b, h, _ => by
    have : b = [] := List.eq_nil_of_length_eq_zero (by omega)
    subst this; simp [dec_nil]
  | n + 1, b, h, hb => by
    by_cases hn : b = []
    · subst hn; simp [dec_nil]
    · rw [dec_cons b hn] at hb ⊢
      have h1 := one_ok (hb (one b).1 (by simp))
      have hp := one_pos b
      have ih := dec_only n (b.drop (one b).2) (by rw [List.length_drop]; omega) fun c hc => hb c (by simp [hc])
      refine ⟨?_, ?_⟩
      · rw [List.flatMap_cons, ih.1, h1.2.1, List.take_append_drop]
      · intro c hc
        rcases List.mem_cons.1 hc with rfl | hc
        · exact h1.1
        · exact ih.2 c hc
/-- All bytes of an encoding but the first are of 128 and more. -/
theorem enc_cont {c : Nat} (i : Nat) (hi : 1 ≤ i) (hl : i < (encU c).length) : 128 ≤ ((encU c).getD i 0).toNat := by
  rcases sizes c with h | ⟨h, h'⟩ | ⟨h, h'⟩ | h
  · rw [enc1 h] at hl; simp at hl; omega
  · rw [enc2 h h'] at hl ⊢
    match i, hi, hl with
    | 1, _, _ => show 128 ≤ (by8 (128 + c % 64)).toNat; rw [by8_nat _ (by omega)]; omega
    | i + 2, _, hl => simp at hl; omega
  · rw [enc3 h h'] at hl ⊢
    match i, hi, hl with
    | 1, _, _ => show 128 ≤ (by8 (128 + c / 64 % 64)).toNat; rw [by8_nat _ (by omega)]; omega
    | 2, _, _ => show 128 ≤ (by8 (128 + c % 64)).toNat; rw [by8_nat _ (by omega)]; omega
    | i + 3, _, hl => simp at hl; omega
  · rw [enc4 h] at hl ⊢
    match i, hi, hl with
    | 1, _, _ => show 128 ≤ (by8 (128 + c / 4096 % 64)).toNat; rw [by8_nat _ (by omega)]; omega
    | 2, _, _ => show 128 ≤ (by8 (128 + c / 64 % 64)).toNat; rw [by8_nat _ (by omega)]; omega
    | 3, _, _ => show 128 ≤ (by8 (128 + c % 64)).toNat; rw [by8_nat _ (by omega)]; omega
    | i + 4, _, hl => simp at hl; omega
theorem valU_congr (b b' : List UInt8) (n : Nat) (h1 : 1 ≤ n) (h4 : n ≤ 4) (h : ∀ i, i < n → b.getD i 0 = b'.getD i 0) : valU b n = valU b' n := by
  match n, h1, h4 with
  | 1, _, _ => simp only [valU, at8, h 0 (by omega)]
  | 2, _, _ => simp only [valU, at8, h 0 (by omega), h 1 (by omega)]
  | 3, _, _ => simp only [valU, at8, h 0 (by omega), h 1 (by omega), h 2 (by omega)]
  | 4, _, _ => simp only [valU, at8, h 0 (by omega), h 1 (by omega), h 2 (by omega), h 3 (by omega)]
theorem getD_app_left (a b : List UInt8) (i : Nat) (h : i < a.length) : (a ++ b).getD i 0 = a.getD i 0 := by
  simp [List.getD, List.getElem?_append_left h]
/-- A byte below 128 ends what stands ahead of it. -/
theorem one_app (a : List UInt8) (m : UInt8) (b : List UInt8) (hm : m.toNat < 128) (ha : a ≠ []) : one (a ++ m :: b) = one a := by
  have hl := List.length_pos_iff.2 ha
  have h0 : (a ++ m :: b).getD 0 0 = a.getD 0 0 := getD_app_left _ _ _ hl
  have hp := lenB_pos (a.getD 0 0)
  have h4 := lenB_le (a.getD 0 0)
  unfold one
  rw [h0]
  generalize lenB (a.getD 0 0) = n at *
  by_cases hn : n ≤ a.length
  · have hv : valU (a ++ m :: b) n = valU a n := valU_congr _ _ n hp h4 fun i hi => getD_app_left _ _ _ (by omega)
    have hk : okU (a ++ m :: b) n ↔ okU a n := by
      unfold okU
      rw [hv, List.take_append_of_le_length hn, List.length_append]
      constructor
      · rintro ⟨_, h2, h3⟩; exact ⟨hn, h2, h3⟩
      · rintro ⟨_, h2, h3⟩; exact ⟨by omega, h2, h3⟩
    simp only [hk, hv]
  · have h1 : ¬ okU a n := fun h => hn h.1
    have h2 : ¬ okU (a ++ m :: b) n := by
      rintro ⟨q1, _, q3⟩
      have hlen : (encU (valU (a ++ m :: b) n).toNat).length = n := by rw [q3, List.length_take]; omega
      have hc := enc_cont (c := (valU (a ++ m :: b) n).toNat) a.length (by omega) (by omega)
      rw [q3] at hc
      have e : ((a ++ m :: b).take n).getD a.length 0 = m := by
        simp [List.getD, show a.length < n by omega]
      rw [e] at hc
      omega
    rw [if_neg h1, if_neg h2]
theorem dec_mark (m : UInt8) (b : List UInt8) (hm : m.toNat < 128) : dec (m :: b) = m.toNat :: dec b := by
  have h := dec_enc (c := m.toNat) (by unfold rightC; omega) b
  rw [enc1 hm] at h
  have e : by8 m.toNat = m := by unfold by8; simp
  rw [e] at h
  exact h
theorem dec_rows : ∀ (n : Nat) (a : List UInt8) (m : UInt8) (b : List UInt8), a.length ≤ n → m.toNat < 128 → dec (a ++ m :: b) = dec a ++ m.toNat :: dec b
  | 0, a, m, b, h, hm => by
    have : a = [] := List.eq_nil_of_length_eq_zero (by omega)
    subst this
    rw [List.nil_append, dec_mark m b hm, dec_nil, List.nil_append]
  | n + 1, a, m, b, h, hm => by
    by_cases ha : a = []
    · subst ha
      rw [List.nil_append, dec_mark m b hm, dec_nil, List.nil_append]
    · have hp := one_pos a
      have hle := one_le a ha
      rw [dec_cons _ (by simp : a ++ m :: b ≠ []), one_app a m b hm ha, dec_cons a ha, List.drop_append_of_le_length hle, dec_rows n _ m b (by rw [List.length_drop]; omega) hm, List.cons_append]
/-- What a letter is, and its small one. -/
def inR (c a b : Int) : Bool := decide (a ≤ c) && decide (c ≤ b)
def letterU (c : Int) : Bool := inR c 65 90 || inR c 97 122 || inR c 192 214 || inR c 216 246 || inR c 248 255 || inR c 913 929 || inR c 931 937 || inR c 945 969 || inR c 1024 1119
def smallU (c : Int) : Int := if inR c 1024 1039 then c + 80 else if inR c 65 90 || inR c 192 214 || inR c 216 222 || inR c 913 929 || inR c 931 937 || inR c 1040 1071 then c + 32 else c
theorem small_no {c : Int} (h : letterU c = false) : smallU c = c := by
  unfold smallU
  unfold letterU inR at h
  unfold inR
  simp at h
  rw [if_neg (by simp; omega), if_neg (by simp; omega)]
theorem small_letter {c : Int} (h : letterU c = true) : letterU (smallU c) = true ∧ smallU (smallU c) = smallU c ∧ rightC (smallU c) := by
  have hr : 65 ≤ c ∧ c ≤ 1119 := by
    unfold letterU inR at h
    simp at h
    omega
  have key : ∀ k : Fin 1200, letterU (k.val : Int) = true → letterU (smallU (k.val : Int)) = true ∧ smallU (smallU (k.val : Int)) = smallU (k.val : Int) ∧ rightC (smallU (k.val : Int)) := by decide +kernel
  have := key ⟨c.toNat, by omega⟩
  simp only [show ((c.toNat : Nat) : Int) = c by omega] at this
  exact this h
end Go.Proofs.YtpnnebnjkinndaaDoor.UtfW
