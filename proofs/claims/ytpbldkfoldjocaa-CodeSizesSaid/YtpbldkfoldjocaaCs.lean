/- The encoding of numbers, texts and lists, and how they are read, in plain Lean. Nothing of the dump. -/
namespace Go.Proofs.Ytpbldkfoldjocaa
namespace Cod
def encF : Nat → Nat → List UInt8
  | 0, _ => []
  | f + 1, v => if v < 128 then [UInt8.ofNat v] else UInt8.ofNat (128 + v % 128) :: encF f (v / 128)
theorem encF_eq : ∀ (f g v : Nat), v < f → v < g → encF f v = encF g v
  | 0, _, _, h, _ => absurd h (by omega)
  | _ + 1, 0, _, _, h => absurd h (by omega)
  | f + 1, g + 1, v, h, h' => by
    unfold encF
    split
    · rfl
    · rw [encF_eq f g (v / 128) (by omega) (by omega)]
/-- The bytes of a number. -/
def enc (v : Nat) : List UInt8 := encF (v + 1) v
theorem enc_small {v : Nat} (h : v < 128) : enc v = [UInt8.ofNat v] := by
  unfold enc encF; rw [if_pos h]
theorem enc_big {v : Nat} (h : 128 ≤ v) : enc v = UInt8.ofNat (128 + v % 128) :: enc (v / 128) := by
  unfold enc
  rw [encF, if_neg (by omega), encF_eq v (v / 128 + 1) (v / 128) (by omega) (by omega)]
theorem enc_ne (v : Nat) : enc v ≠ [] := by
  rcases Nat.lt_or_ge v 128 with h | h
  · rw [enc_small h]; simp
  · rw [enc_big h]; simp
theorem enc_pos (v : Nat) : 1 ≤ (enc v).length := by
  have := List.length_pos_iff.2 (enc_ne v); omega
theorem enc_len_le : ∀ (k v : Nat), v < 128 ^ (k + 1) → (enc v).length ≤ k + 1
  | 0, v, h => by rw [enc_small (by simpa using h)]; simp
  | k + 1, v, h => by
    rcases Nat.lt_or_ge v 128 with h1 | h1
    · rw [enc_small h1]; simp
    · rw [enc_big h1, List.length_cons]
      have : v / 128 < 128 ^ (k + 1) := by rw [Nat.div_lt_iff_lt_mul (by omega)]; rw [Nat.pow_succ] at h; exact h
      have := enc_len_le k (v / 128) this
      omega
theorem enc_len9 {v : Nat} (h : v ≤ 4611686018427387904) : (enc v).length ≤ 9 := enc_len_le 8 v (by omega)
theorem enc_len10 {v : Nat} (h : v < 9223372036854775808) : (enc v).length ≤ 9 := enc_len_le 8 v (by omega)
theorem enc_mono : ∀ (f v w : Nat), w < f → v ≤ w → (enc v).length ≤ (enc w).length
  | 0, _, _, h, _ => absurd h (by omega)
  | f + 1, v, w, h, h' => by
    rcases Nat.lt_or_ge v 128 with h1 | h1
    · rw [enc_small h1]; exact enc_pos w
    · rw [enc_big h1, enc_big (by omega : 128 ≤ w), List.length_cons, List.length_cons]
      have := enc_mono f (v / 128) (w / 128) (by omega) (Nat.div_le_div_right h')
      omega
/-- How many bytes of 128 and more stand at the beginning. -/
def lead : List UInt8 → Nat
  | [] => 0
  | x :: l => if 128 ≤ x.toNat then lead l + 1 else 0
/-- The number whose groups, the lowest first, these bytes are. -/
def val : List UInt8 → Nat
  | [] => 0
  | x :: l => x.toNat % 128 + 128 * val l
theorem lead_le : ∀ l : List UInt8, lead l ≤ l.length
  | [] => Nat.le_refl _
  | x :: l => by
    unfold lead
    split
    · have := lead_le l; simp; omega
    · omega
/-- A number at the beginning of bytes: it, how many bytes it has, and the error. -/
def numS (b : List UInt8) : Nat × Nat × Nat :=
  if 9 ≤ lead b then (0, 0, 2) else if lead b = b.length then (0, 0, 4)
  else if (0 < lead b ∧ b.getD (lead b) 0 = 0) ∨ 4611686018427387904 < val (b.take (lead b + 1)) then (0, 0, 2)
  else (val (b.take (lead b + 1)), lead b + 1, 0)
theorem u8_big {v : Nat} : (UInt8.ofNat (128 + v % 128)).toNat = 128 + v % 128 := by rw [UInt8.toNat_ofNat']; omega
theorem u8_small {v : Nat} (h : v < 128) : (UInt8.ofNat v).toNat = v := by rw [UInt8.toNat_ofNat']; omega
/-- Ahead of a number's bytes: how they begin. -/
theorem lead_enc : ∀ (f v : Nat) (r : List UInt8), v < f → lead (enc v ++ r) + 1 = (enc v).length
  | 0, _, _, h => absurd h (by omega)
  | f + 1, v, r, h => by
    rcases Nat.lt_or_ge v 128 with h1 | h1
    · rw [enc_small h1]
      simp only [List.cons_append, List.nil_append, lead, u8_small h1, List.length_cons, List.length_nil]
      rw [if_neg (by omega)]
    · rw [enc_big h1]
      simp only [List.cons_append, lead, u8_big, List.length_cons]
      rw [if_pos (by omega), lead_enc f (v / 128) r (by omega)]
theorem val_enc : ∀ (f v : Nat), v < f → val (enc v) = v
  | 0, _, h => absurd h (by omega)
  | f + 1, v, h => by
    rcases Nat.lt_or_ge v 128 with h1 | h1
    · rw [enc_small h1]; simp only [val, u8_small h1]; omega
    · rw [enc_big h1]; simp only [val, u8_big]; rw [val_enc f (v / 128) (by omega)]; omega
theorem last_enc : ∀ (f v : Nat) (r : List UInt8), v < f → 128 ≤ v → (enc v ++ r).getD (lead (enc v ++ r)) 0 ≠ 0
  | 0, _, _, h, _ => absurd h (by omega)
  | f + 1, v, r, h, h1 => by
    rw [enc_big h1]
    simp only [List.cons_append, lead, u8_big]
    rw [if_pos (by omega), List.getD_cons_succ]
    rcases Nat.lt_or_ge (v / 128) 128 with h2 | h2
    · rw [enc_small h2]
      simp only [List.cons_append, List.nil_append, lead, u8_small h2]
      rw [if_neg (by omega), List.getD_cons_zero]
      intro hc
      have := congrArg UInt8.toNat hc
      rw [u8_small h2] at this
      have h0 : (0 : UInt8).toNat = 0 := rfl
      omega
    · exact last_enc f (v / 128) r (by omega) h2
theorem lead_small_of {v : Nat} {r : List UInt8} (h : 0 < lead (enc v ++ r)) : 128 ≤ v := by
  rcases Nat.lt_or_ge v 128 with h1 | h1
  · have := lead_enc (v + 1) v r (by omega)
    rw [enc_small h1] at this h
    simp at this
    simp at h
    omega
  · exact h1
/-- WHAT WAS WRITTEN IS READ. -/
theorem num_enc (v : Nat) (r : List UInt8) (h : v ≤ 4611686018427387904) : numS (enc v ++ r) = (v, (enc v).length, 0) := by
  have h1 := lead_enc (v + 1) v r (by omega)
  have h2 := enc_len9 h
  have h3 : (enc v ++ r).take (lead (enc v ++ r) + 1) = enc v := by rw [h1, List.take_left]
  unfold numS
  rw [if_neg (by omega), if_neg (by rw [List.length_append]; omega), h3, val_enc (v + 1) v (by omega), if_neg, h1]
  rintro (⟨ha, hb⟩ | ha)
  · exact last_enc (v + 1) v r (by omega) (lead_small_of ha) hb
  · omega
theorem val_pos : ∀ (k : Nat) (l : List UInt8), lead l = k → k < l.length → l.getD k 0 ≠ 0 → 0 < val (l.take (k + 1))
  | _, [], _, h, _ => absurd h (by simp)
  | 0, x :: l, h1, _, h3 => by
    have hx : x.toNat < 128 := by
      unfold lead at h1
      split at h1
      · omega
      · omega
    simp only [List.take_succ_cons, List.take_zero, val]
    have : x.toNat ≠ 0 := fun hc => h3 (by rw [List.getD_cons_zero]; exact UInt8.toNat_inj.1 hc)
    omega
  | k + 1, x :: l, h1, h2, h3 => by
    have hl : lead l = k := by
      unfold lead at h1
      split at h1
      · omega
      · omega
    have := val_pos k l hl (by simpa using h2) (by simpa using h3)
    rw [List.take_succ_cons]
    simp only [val]
    omega
theorem enc_val : ∀ (k : Nat) (l : List UInt8), lead l = k → k < l.length → (0 < k → l.getD k 0 ≠ 0) → enc (val (l.take (k + 1))) = l.take (k + 1)
  | _, [], _, h, _ => absurd h (by simp)
  | 0, x :: l, h1, _, _ => by
    have hx : x.toNat < 128 := by
      unfold lead at h1
      split at h1
      · omega
      · omega
    simp only [List.take_succ_cons, List.take_zero, val]
    rw [Nat.mul_zero, Nat.add_zero, Nat.mod_eq_of_lt hx, enc_small hx]
    simp
  | k + 1, x :: l, h1, h2, h3 => by
    have hx : 128 ≤ x.toNat ∧ lead l = k := by
      unfold lead at h1
      split at h1
      · omega
      · omega
    have hg := h3 (by omega)
    rw [List.getD_cons_succ] at hg
    have hp := val_pos k l hx.2 (by simpa using h2) hg
    have ih := enc_val k l hx.2 (by simpa using h2) (fun _ => hg)
    rw [List.take_succ_cons]
    simp only [val]
    have hxl := x.toNat_lt
    rw [enc_big (by omega), show (x.toNat % 128 + 128 * val (l.take (k + 1))) / 128 = val (l.take (k + 1)) by omega, ih]
    congr 1
    rw [show 128 + (x.toNat % 128 + 128 * val (l.take (k + 1))) % 128 = x.toNat by omega]
    simp
theorem numS_cases (b : List UInt8) : numS b = (0, 0, 2) ∨ numS b = (0, 0, 4) ∨
    (numS b = (val (b.take (lead b + 1)), lead b + 1, 0) ∧ lead b < 9 ∧ lead b < b.length ∧ (0 < lead b → b.getD (lead b) 0 ≠ 0) ∧ val (b.take (lead b + 1)) ≤ 4611686018427387904) := by
  have h0 := lead_le b
  unfold numS
  split
  · exact .inl rfl
  · split
    · exact .inr (.inl rfl)
    · split
      · exact .inl rfl
      · rename_i h1 h2 h3
        exact .inr (.inr ⟨rfl, by omega, by omega, fun h hc => h3 (.inl ⟨h, hc⟩), by rcases Nat.lt_or_ge 4611686018427387904 (val (b.take (lead b + 1))) with h | h; exact absurd (.inr h) h3; exact h⟩)
/-- WHAT IS READ WAS WRITTEN JUST SO. -/
theorem num_ok {b : List UInt8} {v n : Nat} (h : numS b = (v, n, 0)) : v ≤ 4611686018427387904 ∧ n = (enc v).length ∧ 1 ≤ n ∧ n ≤ b.length ∧ b.take n = enc v := by
  rcases numS_cases b with h1 | h1 | ⟨h1, h2, h3, h4, h5⟩
  · rw [h1] at h; simp at h
  · rw [h1] at h; simp at h
  · rw [h1] at h
    simp only [Prod.mk.injEq] at h
    obtain ⟨rfl, rfl, _⟩ := h
    have := enc_val (lead b) b rfl h3 h4
    exact ⟨h5, by rw [this, List.length_take]; omega, by omega, by omega, this.symm⟩
theorem num_zero {b : List UInt8} {v n e : Nat} (h : numS b = (v, n, e)) (he : e ≠ 0) : v = 0 ∧ n = 0 ∧ (e = 2 ∨ e = 4) := by
  rcases numS_cases b with h1 | h1 | ⟨h1, _⟩
  · rw [h1] at h; simp at h; omega
  · rw [h1] at h; simp at h; omega
  · rw [h1] at h; simp at h; omega
theorem num_le (b : List UInt8) : (numS b).1 ≤ 4611686018427387904 ∧ (numS b).2.1 ≤ b.length ∧ ((numS b).2.2 = 0 ∨ (numS b).2.2 = 2 ∨ (numS b).2.2 = 4) := by
  rcases numS_cases b with h1 | h1 | ⟨h1, h2, h3, h4, h5⟩
  · rw [h1]; simp
  · rw [h1]; simp
  · rw [h1]; exact ⟨h5, h3, .inl rfl⟩
theorem lead_take : ∀ (m : Nat) (l : List UInt8), m ≤ lead l → lead (l.take m) = m
  | 0, _, _ => by simp [lead]
  | m + 1, [], h => by simp [lead] at h
  | m + 1, x :: l, h => by
    unfold lead at h
    split at h
    · rename_i hx
      rw [List.take_succ_cons]
      unfold lead
      rw [if_pos hx, lead_take m l (by omega)]
    · omega
/-- A BEGINNING, less than all, is too short. -/
theorem num_cut {b : List UInt8} {v n m : Nat} (h : numS b = (v, n, 0)) (hm : m < n) : numS (b.take m) = (0, 0, 4) := by
  rcases numS_cases b with h1 | h1 | ⟨h1, h2, h3, h4, h5⟩
  · rw [h1] at h; simp at h
  · rw [h1] at h; simp at h
  · rw [h1] at h
    simp only [Prod.mk.injEq] at h
    obtain ⟨_, rfl, _⟩ := h
    have := lead_take m b (by omega)
    unfold numS
    rw [this, if_neg (by omega), if_pos (by rw [List.length_take]; omega)]
theorem val_snoc : ∀ (l : List UInt8) (k : Nat), k < l.length → val (l.take (k + 1)) = val (l.take k) + (l.getD k 0).toNat % 128 * 2 ^ (7 * k)
  | [], _, h => absurd h (by simp)
  | x :: l, 0, _ => by simp [val]
  | x :: l, k + 1, h => by
    rw [List.take_succ_cons, List.take_succ_cons]
    simp only [val]
    rw [val_snoc l k (by simpa using h), List.getD_cons_succ, show 7 * (k + 1) = 7 + 7 * k by omega, Nat.pow_add, Nat.mul_add]
    have : (l.getD k 0).toNat % 128 * (2 ^ 7 * 2 ^ (7 * k)) = 128 * ((l.getD k 0).toNat % 128 * 2 ^ (7 * k)) := by
      rw [Nat.mul_left_comm]
    rw [this]; omega
theorem val_lt : ∀ (l : List UInt8) (k : Nat), val (l.take k) < 2 ^ (7 * k)
  | [], k => by simp only [List.take_nil, val]; exact Nat.pow_pos (by omega)
  | x :: l, 0 => by simp [val]
  | x :: l, k + 1 => by
    rw [List.take_succ_cons]
    simp only [val]
    have := val_lt l k
    rw [show 7 * (k + 1) = 7 + 7 * k by omega, Nat.pow_add]
    have e : (2 : Nat) ^ 7 = 128 := rfl
    rw [e]
    generalize 2 ^ (7 * k) = P at *
    omega
theorem group_lt (y k : Nat) (hy : y < 128) (hk : k ≤ 8) : y * 2 ^ (7 * k) < 2 ^ 63 := by
  have h1 : y * 2 ^ (7 * k) < 2 ^ 7 * 2 ^ (7 * k) := Nat.mul_lt_mul_of_pos_right hy (Nat.pow_pos (by omega))
  rw [← Nat.pow_add] at h1
  exact Nat.lt_of_lt_of_le h1 (Nat.pow_le_pow_right (by omega) (by omega))
/-- How a beginning grows, byte by byte. -/
theorem lead_more : ∀ (l : List UInt8) (k : Nat), k ≤ lead l → k < l.length → 128 ≤ (l.getD k 0).toNat → k + 1 ≤ lead l
  | [], _, _, h, _ => absurd h (by simp)
  | x :: l, 0, _, _, h => by
    rw [List.getD_cons_zero] at h
    unfold lead
    rw [if_pos h]; omega
  | x :: l, k + 1, h1, h2, h3 => by
    unfold lead at h1 ⊢
    split at h1
    · rename_i hx
      rw [if_pos hx]
      have := lead_more l k (by omega) (by simpa using h2) (by simpa using h3)
      omega
    · omega
theorem lead_stop : ∀ (l : List UInt8) (k : Nat), k ≤ lead l → k < l.length → (l.getD k 0).toNat < 128 → lead l = k
  | [], _, _, h, _ => absurd h (by simp)
  | x :: l, 0, _, _, h => by
    rw [List.getD_cons_zero] at h
    unfold lead
    rw [if_neg (by omega)]
  | x :: l, k + 1, h1, h2, h3 => by
    unfold lead at h1 ⊢
    split at h1
    · rename_i hx
      rw [if_pos hx, lead_stop l k (by omega) (by simpa using h2) (by simpa using h3)]
    · omega
/-- The bytes of a text, and of a list of texts. -/
def encT (s : List UInt8) : List UInt8 := enc s.length ++ s
def encI : List (List UInt8) → List UInt8
  | [] => []
  | s :: l => encT s ++ encI l
def encL (l : List (List UInt8)) : List UInt8 := enc l.length ++ encI l
theorem encI_app : ∀ a b : List (List UInt8), encI (a ++ b) = encI a ++ encI b
  | [], b => rfl
  | s :: a, b => by simp [encI, encI_app a b]
theorem encI_snoc (l : List (List UInt8)) (k : Nat) (h : k < l.length) : encI (l.take (k + 1)) = encI (l.take k) ++ encT (l.getD k []) := by
  rw [List.take_succ_eq_append_getElem h, encI_app]
  simp [encI, h]
theorem encI_take_le (l : List (List UInt8)) (k : Nat) : (encI (l.take k)).length ≤ (encI l).length := by
  have : encI l = encI (l.take k) ++ encI (l.drop k) := by rw [← encI_app, List.take_append_drop]
  rw [this, List.length_append]; omega
theorem encT_len (s : List UInt8) (h : s.length < 9223372036854775808) : (encT s).length ≤ s.length + 9 := by
  have := enc_len10 h
  unfold encT
  rw [List.length_append]; omega
theorem le_encT (s : List UInt8) : s.length + 1 ≤ (encT s).length := by
  have := enc_pos s.length
  unfold encT
  rw [List.length_append]; omega
theorem encI_le : ∀ (l : List (List UInt8)) (m : Nat), (∀ s ∈ l, s.length ≤ m) → m < 9223372036854775808 → (encI l).length ≤ (m + 9) * l.length
  | [], m, _, _ => by simp [encI]
  | s :: l, m, h, hm => by
    have h1 := encI_le l m (fun x hx => h x (by simp [hx])) hm
    have h2 := encT_len s (by have := h s (by simp); omega)
    have h3 := h s (by simp)
    have h4 : (m + 9) * (s :: l).length = (m + 9) * l.length + (m + 9) := by rw [List.length_cons, Nat.mul_succ]
    rw [h4]
    simp only [encI, List.length_append]
    omega
/-- A text at the beginning of bytes: it, how many bytes it has, and the error. -/
def textS (b : List UInt8) (most : Int) : List UInt8 × Nat × Nat :=
  if (numS b).2.2 ≠ 0 then ([], 0, (numS b).2.2) else if most < ((numS b).1 : Int) then ([], 0, 2)
  else if b.length - (numS b).2.1 < (numS b).1 then ([], 0, 4)
  else ((b.drop (numS b).2.1).take (numS b).1, (numS b).2.1 + (numS b).1, 0)
theorem text_enc (s r : List UInt8) (most : Int) (h : s.length ≤ 4611686018427387904) (hm : (s.length : Int) ≤ most) : textS (encT s ++ r) most = (s, (encT s).length, 0) := by
  have h1 : numS (encT s ++ r) = (s.length, (enc s.length).length, 0) := by
    unfold encT; rw [List.append_assoc]; exact num_enc _ _ h
  have h2 : (encT s ++ r).length = (enc s.length).length + s.length + r.length := by simp [encT, Nat.add_assoc]
  unfold textS
  rw [h1]
  simp only
  rw [if_neg (by simp), if_neg (by omega), if_neg (by rw [h2]; omega)]
  simp only [Prod.mk.injEq, and_true]
  refine ⟨?_, by simp [encT]⟩
  unfold encT
  rw [List.append_assoc, List.drop_left, List.take_left]
theorem textS_cases (b : List UInt8) (most : Int) : ((textS b most).1 = [] ∧ (textS b most).2.1 = 0 ∧ ((textS b most).2.2 = 2 ∨ (textS b most).2.2 = 4)) ∨
    ∃ v n, numS b = (v, n, 0) ∧ (v : Int) ≤ most ∧ v ≤ b.length - n ∧ textS b most = ((b.drop n).take v, n + v, 0) := by
  have h0 := num_le b
  unfold textS
  split
  · rename_i h; exact .inl ⟨rfl, rfl, by show (numS b).2.2 = 2 ∨ (numS b).2.2 = 4; omega⟩
  · split
    · exact .inl ⟨rfl, rfl, .inl rfl⟩
    · split
      · exact .inl ⟨rfl, rfl, .inr rfl⟩
      · rename_i h1 h2 h3
        refine .inr ⟨(numS b).1, (numS b).2.1, ?_, by omega, by omega, rfl⟩
        have : (numS b).2.2 = 0 := by omega
        rw [← this]
theorem text_ok {b s : List UInt8} {most : Int} {n : Nat} (h : textS b most = (s, n, 0)) : s.length ≤ 4611686018427387904 ∧ (s.length : Int) ≤ most ∧ n = (encT s).length ∧ 1 ≤ n ∧ n ≤ b.length ∧ b.take n = encT s := by
  rcases textS_cases b most with h1 | ⟨v, m, h1, h2, h3, h4⟩
  · rw [h] at h1; simp at h1
  · rw [h] at h4
    simp only [Prod.mk.injEq, and_true] at h4
    obtain ⟨rfl, rfl⟩ := h4
    obtain ⟨k1, k2, k3, k4, k5⟩ := num_ok h1
    have hl : ((b.drop m).take v).length = v := by rw [List.length_take, List.length_drop]; omega
    have he : b.take (m + v) = encT ((b.drop m).take v) := by
      unfold encT
      rw [hl, ← k5, List.take_add]
    refine ⟨by omega, by omega, ?_, by omega, by omega, he⟩
    rw [← he, List.length_take]; omega
theorem text_cut {b s : List UInt8} {most : Int} {n m : Nat} (h : textS b most = (s, n, 0)) (hm : m < n) : textS (b.take m) most = ([], 0, 4) := by
  rcases textS_cases b most with h1 | ⟨v, k, h1, h2, h3, h4⟩
  · rw [h] at h1; simp at h1
  · rw [h] at h4
    simp only [Prod.mk.injEq, and_true] at h4
    obtain ⟨_, rfl⟩ := h4
    rcases Nat.lt_or_ge m k with hk | hk
    · have := num_cut h1 hk
      unfold textS
      rw [this]; simp
    · obtain ⟨k1, k2, k3, k4, k5⟩ := num_ok h1
      have h5 : numS (b.take m) = (v, k, 0) := by
        have : b.take m = enc v ++ (b.take m).drop k := by
          rw [← k5]
          have : b.take k = (b.take m).take k := by rw [List.take_take, Nat.min_eq_left hk]
          rw [this, List.take_append_drop]
        rw [this, num_enc v _ k1, ← k2]
      unfold textS
      rw [h5]
      simp only
      rw [if_neg (by simp), if_neg (by omega), if_pos (by rw [List.length_take]; omega)]
/-- So many texts at the beginning of bytes, one behind the other. -/
def itemsS : Nat → List UInt8 → Int → List (List UInt8) × Nat × Nat
  | 0, _, _ => ([], 0, 0)
  | k + 1, b, most => if (textS b most).2.2 ≠ 0 then ([], 0, (textS b most).2.2) else
    if (itemsS k (b.drop (textS b most).2.1) most).2.2 ≠ 0 then ([], 0, (itemsS k (b.drop (textS b most).2.1) most).2.2)
    else ((textS b most).1 :: (itemsS k (b.drop (textS b most).2.1) most).1, (textS b most).2.1 + (itemsS k (b.drop (textS b most).2.1) most).2.1, 0)
theorem items_enc : ∀ (l : List (List UInt8)) (r : List UInt8) (most : Int), (∀ s ∈ l, s.length ≤ 4611686018427387904 ∧ (s.length : Int) ≤ most) → itemsS l.length (encI l ++ r) most = (l, (encI l).length, 0)
  | [], _, _, _ => rfl
  | s :: l, r, most, h => by
    have h1 := text_enc s (encI l ++ r) most (h s (by simp)).1 (h s (by simp)).2
    have h2 := items_enc l r most (fun x hx => h x (by simp [hx]))
    simp only [List.length_cons, encI, itemsS, List.append_assoc]
    rw [h1]
    simp only
    rw [List.drop_left, h2]
    simp
theorem items_zero (k : Nat) (b : List UInt8) (most : Int) (h : (itemsS k b most).2.2 ≠ 0) : (itemsS k b most).1 = [] ∧ (itemsS k b most).2.1 = 0 ∧ ((itemsS k b most).2.2 = 2 ∨ (itemsS k b most).2.2 = 4) := by
  induction k generalizing b with
  | zero => exact absurd rfl h
  | succ k ih =>
    unfold itemsS at h ⊢
    split
    · rename_i h1
      rcases textS_cases b most with h2 | ⟨v, n, _, _, _, h2⟩
      · exact ⟨rfl, rfl, h2.2.2⟩
      · rw [h2] at h1; simp at h1
    · rename_i h1
      rw [if_neg h1] at h
      split
      · rename_i h2
        exact ⟨rfl, rfl, (ih _ h2).2.2⟩
      · rename_i h2
        rw [if_neg h2] at h
        exact absurd rfl h
theorem items_succ_ok {k : Nat} {b : List UInt8} {most : Int} {l : List (List UInt8)} {n : Nat} (h : itemsS (k + 1) b most = (l, n, 0)) :
    ∃ s m l' n', textS b most = (s, m, 0) ∧ itemsS k (b.drop m) most = (l', n', 0) ∧ l = s :: l' ∧ n = m + n' := by
  unfold itemsS at h
  split at h
  · rename_i h1; simp at h; exact absurd h.2.2 h1
  · split at h
    · rename_i h1 h2; simp at h; exact absurd h.2.2 h2
    · rename_i h1 h2
      simp only [Prod.mk.injEq, and_true] at h
      refine ⟨(textS b most).1, (textS b most).2.1, _, _, ?_, ?_, h.1.symm, h.2.symm⟩
      · have : (textS b most).2.2 = 0 := by omega
        rw [← this]
      · have : (itemsS k (b.drop (textS b most).2.1) most).2.2 = 0 := by omega
        rw [← this]
theorem items_ok : ∀ {k : Nat} {b : List UInt8} {most : Int} {l : List (List UInt8)} {n : Nat}, itemsS k b most = (l, n, 0) → l.length = k ∧ (∀ s ∈ l, (s.length : Int) ≤ most) ∧ n = (encI l).length ∧ n ≤ b.length ∧ b.take n = encI l
  | 0, b, most, l, n, h => by
    simp only [itemsS, Prod.mk.injEq, and_true] at h
    obtain ⟨rfl, rfl⟩ := h
    simp [encI]
  | k + 1, b, most, l, n, h => by
    obtain ⟨s, m, l', n', h1, h2, rfl, rfl⟩ := items_succ_ok h
    obtain ⟨_, t2, t3, _, t5, t6⟩ := text_ok h1
    obtain ⟨i1, i2, i3, i4, i5⟩ := items_ok h2
    rw [List.length_drop] at i4
    refine ⟨by simp [i1], ?_, ?_, by omega, ?_⟩
    · intro x hx
      rcases List.mem_cons.1 hx with rfl | hx
      · exact t2
      · exact i2 x hx
    · simp only [encI, List.length_append]; omega
    · rw [List.take_add, t6, i5]; rfl
theorem items_cut : ∀ {k : Nat} {b : List UInt8} {most : Int} {l : List (List UInt8)} {n m : Nat}, itemsS k b most = (l, n, 0) → m < n → itemsS k (b.take m) most = ([], 0, 4)
  | 0, b, most, l, n, m, h, hm => by
    simp only [itemsS, Prod.mk.injEq, and_true] at h
    omega
  | k + 1, b, most, l, n, m, h, hm => by
    obtain ⟨s, q, l', n', h1, h2, rfl, rfl⟩ := items_succ_ok h
    rcases Nat.lt_or_ge m q with hk | hk
    · have := text_cut h1 hk
      unfold itemsS
      rw [this]; simp
    · obtain ⟨t0, t2, t3, _, t5, t6⟩ := text_ok h1
      have h3 : textS (b.take m) most = (s, q, 0) := by
        have : b.take m = encT s ++ (b.take m).drop q := by
          rw [← t6]
          have : b.take q = (b.take m).take q := by rw [List.take_take, Nat.min_eq_left hk]
          rw [this, List.take_append_drop]
        rw [this, text_enc s _ most t0 t2, ← t3]
      have h4 := items_cut h2 (show m - q < n' by omega)
      unfold itemsS
      rw [h3]
      simp only
      rw [List.drop_take, h4]
      simp
/-- What the first texts are, and the others behind them. -/
def joinI (l : List (List UInt8)) (m : Nat) (r : List (List UInt8) × Nat × Nat) : List (List UInt8) × Nat × Nat :=
  if r.2.2 ≠ 0 then ([], 0, r.2.2) else (l ++ r.1, m + r.2.1, 0)
theorem items_join (k : Nat) (b : List UInt8) (most : Int) : itemsS k b most = joinI [] 0 (itemsS k b most) := by
  unfold joinI
  split
  · rename_i h
    have := items_zero k b most h
    rw [← this.1, ← this.2.1]
  · rename_i h
    have : (itemsS k b most).2.2 = 0 := by omega
    rw [List.nil_append, Nat.zero_add]
    exact Prod.ext rfl (Prod.ext rfl this)
theorem join_step (l : List (List UInt8)) (m k : Nat) (b : List UInt8) (most : Int) (h : (textS b most).2.2 = 0) :
    joinI l m (itemsS (k + 1) b most) = joinI (l ++ [(textS b most).1]) (m + (textS b most).2.1) (itemsS k (b.drop (textS b most).2.1) most) := by
  conv => lhs; unfold itemsS
  rw [if_neg (by omega)]
  by_cases h2 : (itemsS k (b.drop (textS b most).2.1) most).2.2 ≠ 0
  · rw [if_pos h2]
    unfold joinI
    simp only
    rw [if_pos h2, if_pos h2]
  · rw [if_neg h2]
    unfold joinI
    simp only
    rw [if_neg h2]
    simp [Nat.add_assoc]
theorem join_fail (l : List (List UInt8)) (m k : Nat) (b : List UInt8) (most : Int) (h : (textS b most).2.2 ≠ 0) :
    joinI l m (itemsS (k + 1) b most) = ([], 0, (textS b most).2.2) := by
  unfold itemsS
  rw [if_pos h]
  unfold joinI
  rw [if_pos h]
/-- A list of texts at the beginning of bytes: it, how many bytes it has, and the error. -/
def listS (b : List UInt8) (many most : Int) : List (List UInt8) × Nat × Nat :=
  if (numS b).2.2 ≠ 0 then ([], 0, (numS b).2.2) else if many < ((numS b).1 : Int) then ([], 0, 2)
  else joinI [] (numS b).2.1 (itemsS (numS b).1 (b.drop (numS b).2.1) most)
theorem listS_ok {b : List UInt8} {many most : Int} {l : List (List UInt8)} {n : Nat} (h : listS b many most = (l, n, 0)) :
    ∃ m n', numS b = (l.length, m, 0) ∧ (l.length : Int) ≤ many ∧ itemsS l.length (b.drop m) most = (l, n', 0) ∧ n = m + n' := by
  unfold listS at h
  split at h
  · rename_i h1; simp at h; exact absurd h.2.2 h1
  · split at h
    · simp at h
    · rename_i h1 h2
      unfold joinI at h
      split at h
      · rename_i h3; simp at h; exact absurd h.2.2 h3
      · rename_i h3
        simp only [Prod.mk.injEq, and_true, List.nil_append] at h
        have h4 : (numS b).2.2 = 0 := by omega
        have h5 : (itemsS (numS b).1 (b.drop (numS b).2.1) most).2.2 = 0 := by omega
        have h6 : itemsS (numS b).1 (b.drop (numS b).2.1) most = (l, (itemsS (numS b).1 (b.drop (numS b).2.1) most).2.1, 0) := by rw [← h.1, ← h5]
        have h7 := (items_ok h6).1
        refine ⟨(numS b).2.1, _, ?_, by omega, ?_, h.2.symm⟩
        · rw [h7, ← h4]
        · rw [h7]; exact h6
theorem list_enc (l : List (List UInt8)) (r : List UInt8) (many most : Int) (hl : l.length ≤ 4611686018427387904) (hm : (l.length : Int) ≤ many) (h : ∀ s ∈ l, s.length ≤ 4611686018427387904 ∧ (s.length : Int) ≤ most) :
    listS (encL l ++ r) many most = (l, (encL l).length, 0) := by
  have h1 : numS (encL l ++ r) = (l.length, (enc l.length).length, 0) := by
    unfold encL; rw [List.append_assoc]; exact num_enc _ _ hl
  have h2 := items_enc l r most h
  unfold listS
  rw [h1]
  simp only
  rw [if_neg (by simp), if_neg (by omega)]
  have h3 : (encL l ++ r).drop (enc l.length).length = encI l ++ r := by unfold encL; rw [List.append_assoc, List.drop_left]
  rw [h3, h2]
  unfold joinI
  simp [encL]
theorem list_ok {b : List UInt8} {many most : Int} {l : List (List UInt8)} {n : Nat} (h : listS b many most = (l, n, 0)) : (l.length : Int) ≤ many ∧ (∀ s ∈ l, (s.length : Int) ≤ most) ∧ n = (encL l).length ∧ 1 ≤ n ∧ n ≤ b.length ∧ b.take n = encL l := by
  obtain ⟨m, n', h1, h2, h3, rfl⟩ := listS_ok h
  obtain ⟨k1, k2, k3, k4, k5⟩ := num_ok h1
  obtain ⟨i1, i2, i3, i4, i5⟩ := items_ok h3
  rw [List.length_drop] at i4
  refine ⟨h2, i2, ?_, by omega, by omega, ?_⟩
  · unfold encL; rw [List.length_append]; omega
  · rw [List.take_add, k5, i5]; rfl
theorem list_cut {b : List UInt8} {many most : Int} {l : List (List UInt8)} {n m : Nat} (h : listS b many most = (l, n, 0)) (hm : m < n) : listS (b.take m) many most = ([], 0, 4) := by
  obtain ⟨k, n', h1, h2, h3, rfl⟩ := listS_ok h
  rcases Nat.lt_or_ge m k with hk | hk
  · have := num_cut h1 hk
    unfold listS
    rw [this]; simp
  · obtain ⟨k1, k2, k3, k4, k5⟩ := num_ok h1
    have h5 : numS (b.take m) = (l.length, k, 0) := by
      have : b.take m = enc l.length ++ (b.take m).drop k := by
        rw [← k5]
        have : b.take k = (b.take m).take k := by rw [List.take_take, Nat.min_eq_left hk]
        rw [this, List.take_append_drop]
      rw [this, num_enc l.length _ k1, ← k2]
    have h4 := items_cut h3 (show m - k < n' by omega)
    unfold listS
    rw [h5]
    simp only
    rw [if_neg (by simp), if_neg (by omega), List.drop_take, h4]
    unfold joinI
    simp
theorem list_zero {b : List UInt8} {many most : Int} (h : (listS b many most).2.2 ≠ 0) : (listS b many most).1 = [] ∧ (listS b many most).2.1 = 0 ∧ ((listS b many most).2.2 = 2 ∨ (listS b many most).2.2 = 4) := by
  have h0 := num_le b
  unfold listS at h ⊢
  split
  · rename_i h1; exact ⟨rfl, rfl, by show (numS b).2.2 = 2 ∨ (numS b).2.2 = 4; omega⟩
  · rename_i h1
    rw [if_neg h1] at h
    split
    · exact ⟨rfl, rfl, .inl rfl⟩
    · rename_i h2
      rw [if_neg h2] at h
      unfold joinI at h ⊢
      split
      · rename_i h3; exact ⟨rfl, rfl, (items_zero _ _ _ h3).2.2⟩
      · rename_i h3; rw [if_neg h3] at h; exact absurd rfl h
theorem textS_le (b : List UInt8) (most : Int) : (textS b most).2.1 ≤ b.length := by
  rcases textS_cases b most with h | ⟨v, m, h2, _, h3, h4⟩
  · rw [h.2.1]; omega
  · have := (num_ok h2).2.2.2.1
    rw [h4]
    simp only
    omega
theorem listS_le (b : List UInt8) (many most : Int) : (listS b many most).2.1 ≤ b.length := by
  by_cases hx : (listS b many most).2.2 = 0
  · obtain ⟨l, n, h⟩ : ∃ l n, listS b many most = (l, n, 0) := ⟨_, _, by rw [← hx]⟩
    rw [h]
    exact (list_ok h).2.2.2.2.1
  · rw [(list_zero hx).2.1]; omega
end Cod
end Go.Proofs.Ytpbldkfoldjocaa
