/- Plain mathematics of SHA-256 on UInt32 and lists of bytes; nothing of the dump. -/
import Derived.Test.YtmebogaenbjmnaaDoorBase
namespace Go.Proofs.YtmebogaenbjmnaaDoor
namespace Sha
def rotr (x : UInt32) (n : Nat) : UInt32 := UInt32.ofNat (x.toNat >>> n ||| (x.toNat <<< (32 - n)) % 4294967296)
theorem u32_lt (x : UInt32) : x.toNat < 4294967296 := x.toNat_lt
theorem un_lt (x : UInt32) : un x < 4294967296 := by have := u32_lt x; unfold un; omega
theorem un_nn (x : UInt32) : 0 ≤ un x := Int.natCast_nonneg _
theorem xor_u (x y : UInt32) : bits .xor .u32 (un x) (un y) = un (x ^^^ y) := by
  unfold un; rw [u32_xor_nat _ _ (u32_lt x) (u32_lt y), UInt32.toNat_xor]
theorem and_u (x y : UInt32) : bits .and .u32 (un x) (un y) = un (x &&& y) := by
  unfold un; rw [u32_and_nat _ _ (u32_lt x) (u32_lt y), UInt32.toNat_and]
theorem or_u (x y : UInt32) : bits .or .u32 (un x) (un y) = un (x ||| y) := by
  unfold un; rw [u32_or_nat _ _ (u32_lt x) (u32_lt y), UInt32.toNat_or]
theorem add_u (x y : UInt32) : IntKind.u32.wrap (un x + un y) = un (x + y) := by
  unfold un; rw [IntKind.wrap_u32, UInt32.toNat_add]; omega
theorem add_u' (x y : UInt32) : (un x + un y) % 4294967296 = un (x + y) := by
  unfold un; rw [UInt32.toNat_add]; omega
theorem rotr_toNat (x : UInt32) (n : Nat) : (rotr x n).toNat = x.toNat >>> n ||| (x.toNat <<< (32 - n)) % 4294967296 := by
  unfold rotr
  rw [UInt32.toNat_ofNat']
  apply Nat.mod_eq_of_lt
  apply Nat.or_lt_two_pow
  · exact Nat.lt_of_le_of_lt (by rw [Nat.shiftRight_eq_div_pow]; exact Nat.div_le_self _ _) (u32_lt x)
  · omega
theorem rotr_int (x : UInt32) (n : Nat) : bits .or .u32 (un x * 2 ^ (32 - n) % 4294967296) (un x / 2 ^ n) = un (rotr x n) := by
  unfold un
  have hx := u32_lt x
  have e1 : ((x.toNat : Int) * 2 ^ (32 - n) % 4294967296) = (((x.toNat <<< (32 - n)) % 4294967296 : Nat) : Int) := by
    rw [Nat.shiftLeft_eq]; simp
  have e2 : ((x.toNat : Int) / 2 ^ n) = ((x.toNat >>> n : Nat) : Int) := by
    rw [Nat.shiftRight_eq_div_pow]; simp
  rw [e1, e2, u32_or_nat _ _ (by omega) (Nat.lt_of_le_of_lt (by rw [Nat.shiftRight_eq_div_pow]; exact Nat.div_le_self _ _) hx), rotr_toNat, Nat.or_comm]
theorem rot_mask (n : Nat) (h : 0 < n) (h' : n < 32) : bits .and .u64 (IntKind.u64.wrap (-(n : Int))) 31 = 32 - (n : Int) := by
  have e : IntKind.u64.wrap (-(n : Int)) = ((18446744073709551616 - n : Nat) : Int) := by
    simp only [IntKind.wrap, IntKind.bits, IntKind.signed]
    simp
    omega
  have := u64_and_nat (18446744073709551616 - n) 31 (by omega) (by omega)
  rw [e]
  refine this.trans ?_
  rw [nat_mask5]
  omega
def bsig0 (x : UInt32) : UInt32 := rotr x 2 ^^^ rotr x 13 ^^^ rotr x 22
def bsig1 (x : UInt32) : UInt32 := rotr x 6 ^^^ rotr x 11 ^^^ rotr x 25
def ssig0 (x : UInt32) : UInt32 := rotr x 7 ^^^ rotr x 18 ^^^ (x >>> 3)
def ssig1 (x : UInt32) : UInt32 := rotr x 17 ^^^ rotr x 19 ^^^ (x >>> 10)
theorem shr_u (x : UInt32) (k : Nat) (h : k < 32) : un x / 2 ^ k = un (x >>> (UInt32.ofNat k)) := by
  unfold un
  rw [UInt32.toNat_shiftRight, UInt32.toNat_ofNat', Nat.shiftRight_eq_div_pow]
  rw [show k % 2 ^ 32 % 32 = k by omega]
  simp

def be32 (a b c d : UInt8) : UInt32 := a.toUInt32 <<< 24 ||| b.toUInt32 <<< 16 ||| c.toUInt32 <<< 8 ||| d.toUInt32
def word (bs : List UInt8) (i : Nat) : UInt32 := be32 (bs.getD (4 * i) 0) (bs.getD (4 * i + 1) 0) (bs.getD (4 * i + 2) 0) (bs.getD (4 * i + 3) 0)
/-- The first n words of a block. -/
def words (bs : List UInt8) : Nat → List UInt32
  | 0 => []
  | n + 1 => words bs n ++ [word bs n]
/-- The schedule: n further words. -/
def ext (l : List UInt32) : UInt32 := l.getD (l.length - 16) 0 + ssig0 (l.getD (l.length - 15) 0) + l.getD (l.length - 7) 0 + ssig1 (l.getD (l.length - 2) 0)
def sched (bs : List UInt8) : Nat → List UInt32
  | 0 => words bs 16
  | n + 1 => sched bs n ++ [ext (sched bs n)]
theorem words_len (bs : List UInt8) (n : Nat) : (words bs n).length = n := by
  induction n with
  | zero => rfl
  | succ n ih => simp [words, ih]
theorem sched_len (bs : List UInt8) (n : Nat) : (sched bs n).length = 16 + n := by
  induction n with
  | zero => simp [sched, words_len]
  | succ n ih => simp [sched, ih]; omega
/-- A row of words of which the first are known, the rest 0. -/
def filled (l : List UInt32) : List UInt32 := l ++ List.replicate (64 - l.length) 0
theorem filled_len (l : List UInt32) (h : l.length ≤ 64) : (filled l).length = 64 := by simp [filled]; omega
theorem filled_set (l : List UInt32) (x : UInt32) (h : l.length < 64) : (filled l).set l.length x = filled (l ++ [x]) := by
  unfold filled
  rw [List.set_append_right _ _ (Nat.le_refl _), Nat.sub_self, show 64 - l.length = (63 - l.length) + 1 by omega, List.replicate_succ, List.set_cons_zero]
  simp
theorem filled_get (l : List UInt32) (i : Nat) (h : i < l.length) : (filled l).getD i 0 = l.getD i 0 := by
  unfold filled
  simp [List.getElem?_append_left h]
theorem filled_full (l : List UInt32) (h : l.length = 64) : filled l = l := by simp [filled, h]
theorem u8_shl (a : UInt8) (k : Nat) (hk : k ≤ 24) : (a.toUInt32 <<< (UInt32.ofNat k)).toNat = a.toNat * 2 ^ k := by
  have := a.toNat_lt
  have hp : 2 ^ k ≤ 2 ^ 24 := Nat.pow_le_pow_right (by omega) hk
  rw [UInt32.toNat_shiftLeft, UInt32.toNat_ofNat', UInt8.toNat_toUInt32, Nat.shiftLeft_eq, show k % 2 ^ 32 % 32 = k by omega]
  apply Nat.mod_eq_of_lt
  calc a.toNat * 2 ^ k < 256 * 2 ^ k := Nat.mul_lt_mul_of_pos_right (by omega) (Nat.two_pow_pos _)
    _ ≤ 256 * 2 ^ 24 := Nat.mul_le_mul_left _ hp
    _ = 2 ^ 32 := by decide

theorem be32_int (a b c d : UInt8) : bits .or .u32 (bits .or .u32 (bits .or .u32 (ub a % 4294967296 * 16777216 % 4294967296) (ub b % 4294967296 * 65536 % 4294967296)) (ub c % 4294967296 * 256 % 4294967296)) (ub d % 4294967296) = un (be32 a b c d) := by
  have ha := a.toNat_lt
  have hb := b.toNat_lt
  have hc := c.toNat_lt
  have hd := d.toNat_lt
  have e1 : ub a % (4294967296 : Int) * (16777216 : Int) % (4294967296 : Int) = un (a.toUInt32 <<< 24) := by
    have := u8_shl a 24 (by omega); unfold ub un; rw [show (24 : UInt32) = UInt32.ofNat 24 from rfl, this]; omega
  have e2 : ub b % (4294967296 : Int) * (65536 : Int) % (4294967296 : Int) = un (b.toUInt32 <<< 16) := by
    have := u8_shl b 16 (by omega); unfold ub un; rw [show (16 : UInt32) = UInt32.ofNat 16 from rfl, this]; omega
  have e3 : ub c % (4294967296 : Int) * (256 : Int) % (4294967296 : Int) = un (c.toUInt32 <<< 8) := by
    have := u8_shl c 8 (by omega); unfold ub un; rw [show (8 : UInt32) = UInt32.ofNat 8 from rfl, this]; omega
  have e4 : ub d % 4294967296 = un d.toUInt32 := by unfold ub un; rw [UInt8.toNat_toUInt32]; omega
  rw [e1, e2, e3, e4, or_u, or_u, or_u]; rfl

theorem shr3 (x : UInt32) : un x / 8 = un (x >>> 3) := shr_u x 3 (by omega)
theorem shr10 (x : UInt32) : un x / 1024 = un (x >>> 10) := shr_u x 10 (by omega)

theorem sh3 (x : UInt32) : Op.shift .shr .u32 (un x) .u64 3 = pure (.int .u32 (un (x >>> 3))) := by
  rw [shift_shr_any _ _ _ _ (by omega)]; exact congrArg (fun n => pure (Value.int .u32 n)) (shr3 x)
theorem sh10 (x : UInt32) : Op.shift .shr .u32 (un x) .u64 10 = pure (.int .u32 (un (x >>> 10))) := by
  rw [shift_shr_any _ _ _ _ (by omega)]; exact congrArg (fun n => pure (Value.int .u32 n)) (shr10 x)

def K : List UInt32 := [1116352408, 1899447441, 3049323471, 3921009573, 961987163, 1508970993, 2453635748, 2870763221, 3624381080, 310598401, 607225278, 1426881987, 1925078388, 2162078206, 2614888103, 3248222580, 3835390401, 4022224774, 264347078, 604807628, 770255983, 1249150122, 1555081692, 1996064986, 2554220882, 2821834349, 2952996808, 3210313671, 3336571891, 3584528711, 113926993, 338241895, 666307205, 773529912, 1294757372, 1396182291, 1695183700, 1986661051, 2177026350, 2456956037, 2730485921, 2820302411, 3259730800, 3345764771, 3516065817, 3600352804, 4094571909, 275423344, 430227734, 506948616, 659060556, 883997877, 958139571, 1322822218, 1537002063, 1747873779, 1955562222, 2024104815, 2227730452, 2361852424, 2428436474, 2756734187, 3204031479, 3329325298]
/-- The eight words, by name. -/
structure St where
  a : UInt32
  b : UInt32
  c : UInt32
  d : UInt32
  e : UInt32
  f : UInt32
  g : UInt32
  h : UInt32
def St.ofL (l : List UInt32) : St := ⟨l.getD 0 0, l.getD 1 0, l.getD 2 0, l.getD 3 0, l.getD 4 0, l.getD 5 0, l.getD 6 0, l.getD 7 0⟩
def St.toL (s : St) : List UInt32 := [s.a, s.b, s.c, s.d, s.e, s.f, s.g, s.h]
def ch (e f g : UInt32) : UInt32 := (e &&& f) ^^^ (~~~e &&& g)
def maj (a b c : UInt32) : UInt32 := (a &&& b) ^^^ (a &&& c) ^^^ (b &&& c)
def t1 (s : St) (k w : UInt32) : UInt32 := s.h + bsig1 s.e + ch s.e s.f s.g + k + w
def t2 (s : St) : UInt32 := bsig0 s.a + maj s.a s.b s.c
def rstep (s : St) (k w : UInt32) : St := ⟨t1 s k w + t2 s, s.a, s.b, s.c, s.d + t1 s k w, s.e, s.f, s.g⟩
def rounds (ws : List UInt32) (s : St) : Nat → St
  | 0 => s
  | n + 1 => rstep (rounds ws s n) (K.getD n 0) (ws.getD n 0)
def addSt (x y : St) : St := ⟨x.a + y.a, x.b + y.b, x.c + y.c, x.d + y.d, x.e + y.e, x.f + y.f, x.g + y.g, x.h + y.h⟩
def compress (s : St) (bs : List UInt8) : St := addSt s (rounds (sched bs 48) s 64)
theorem K_len : K.length = 64 := by decide
theorem not_u (x : UInt32) : bits .xor .u32 4294967295 (un x) = un (~~~x) := by
  have e : (4294967295 : Int) = un 4294967295 := rfl
  rw [e, xor_u]
  congr 1

theorem not_u' (x : UInt32) : bits .xor .u32 IntKind.u32.max (un x) = un (~~~x) := not_u x
theorem u32_uns : IntKind.u32.signed = false := rfl

/-- The bytes of a word, most significant first. -/
def byteOf (x : UInt32) (k : Nat) : UInt8 := UInt8.ofNat (x.toNat / 2 ^ k)
def be (x : UInt32) : List UInt8 := [byteOf x 24, byteOf x 16, byteOf x 8, byteOf x 0]
def textB (l : List UInt32) : List UInt8 := l.flatMap be
theorem byte_int (x : UInt32) (k : Nat) : ub (byteOf x k) = un x / 2 ^ k % 256 := by
  unfold ub byteOf un
  rw [UInt8.toNat_ofNat']
  simp
theorem textB_len (l : List UInt32) : (textB l).length = 4 * l.length := by
  induction l with
  | nil => rfl
  | cons x l ih => simp [textB, be] at ih ⊢; omega
theorem textB_snoc (l : List UInt32) (k : Nat) (h : k < l.length) : textB (l.take (k + 1)) = textB (l.take k) ++ be (l.getD k 0) := by
  unfold textB
  rw [List.take_succ_eq_append_getElem h, List.flatMap_append]
  simp [h]

theorem be_cells (x : UInt32) : bcells (be x) = [.int .u8 (un x / 16777216 % 256), .int .u8 (un x / 65536 % 256), .int .u8 (un x / 256 % 256), .int .u8 (un x % 256)] := by
  simp [bcells, be, bv, byte_int]

/-- The cells of a State. -/
def stc (s : St) (r : Value) (n : Int) : List Value := wcells s.toL ++ [r, .int .i64 n]
def iv : St := ⟨1779033703, 3144134277, 1013904242, 2773480762, 1359893119, 2600822924, 528734635, 1541459225⟩
theorem stc_len (s : St) (r : Value) (n : Int) : (stc s r n).length = 10 := rfl
theorem stc_one (s : St) (A : Option Addr) (m c : Nat) (n : Int) : ∀ v ∈ stc s (.slice A m c) n, v.oneCell' = true := by
  intro v hv
  simp only [stc, List.mem_append, List.mem_cons, List.not_mem_nil, or_false] at hv
  rcases hv with hv | rfl | rfl
  · exact wcells_one _ v hv
  · rfl
  · rfl

/-- The words behind all whole blocks, and the bytes that are left. -/
def absorbN : Nat → St → List UInt8 → St × List UInt8
  | 0, s, l => (s, l)
  | n + 1, s, l => if l.length < 64 then (s, l) else absorbN n (compress s (l.take 64)) (l.drop 64)
def absorb (s : St) (l : List UInt8) : St × List UInt8 := absorbN l.length s l
theorem absorbN_fuel : ∀ (n m : Nat) (s : St) (l : List UInt8), l.length ≤ n → l.length ≤ m → absorbN n s l = absorbN m s l
  | 0, 0, _, _, _, _ => rfl
  | 0, m + 1, s, l, h, _ => by
    show (s, l) = if l.length < 64 then _ else _
    rw [if_pos (by omega)]
  | n + 1, 0, s, l, _, h => by
    show (if l.length < 64 then _ else _) = (s, l)
    rw [if_pos (by omega)]
  | n + 1, m + 1, s, l, h1, h2 => by
    show (if l.length < 64 then _ else _) = (if l.length < 64 then _ else _)
    split
    · rfl
    · exact absorbN_fuel n m _ _ (by simp; omega) (by simp; omega)
theorem absorb_short (s : St) (l : List UInt8) (h : l.length < 64) : absorb s l = (s, l) := by
  unfold absorb
  cases hl : l.length with
  | zero => rfl
  | succ n => exact if_pos h
theorem absorb_long (s : St) (l : List UInt8) (h : 64 ≤ l.length) : absorb s l = absorb (compress s (l.take 64)) (l.drop 64) := by
  unfold absorb
  obtain ⟨n, hn⟩ : ∃ n, l.length = n + 1 := ⟨l.length - 1, by omega⟩
  rw [hn]
  show (if l.length < 64 then _ else _) = _
  rw [if_neg (by omega)]
  exact absorbN_fuel _ _ _ _ (by simp; omega) (by simp)
theorem absorbN_len : ∀ (n : Nat) (s : St) (l : List UInt8), l.length ≤ n → (absorbN n s l).2.length = l.length % 64
  | 0, s, l, h => by simp only [absorbN]; omega
  | n + 1, s, l, h => by
    show (if l.length < 64 then _ else _ : St × List UInt8).2.length = _
    split
    · simp only []; omega
    · rw [absorbN_len n _ _ (by simp; omega)]; simp; omega
theorem absorb_len (s : St) (l : List UInt8) : (absorb s l).2.length = l.length % 64 := absorbN_len _ _ _ (Nat.le_refl _)
/-- What was absorbed may be left out. -/
theorem absorbN_app : ∀ (n : Nat) (s : St) (l m : List UInt8), l.length ≤ n → absorb s (l ++ m) = absorb (absorbN n s l).1 ((absorbN n s l).2 ++ m)
  | 0, s, l, m, _ => rfl
  | n + 1, s, l, m, h => by
    have e : absorbN (n + 1) s l = if l.length < 64 then (s, l) else absorbN n (compress s (l.take 64)) (l.drop 64) := rfl
    by_cases h1 : l.length < 64
    · rw [e, if_pos h1]
    · rw [e, if_neg h1, absorb_long _ (l ++ m) (by simp; omega), List.take_append_of_le_length (by omega), List.drop_append_of_le_length (by omega)]
      exact absorbN_app n _ _ m (by simp; omega)
theorem absorb_app (s : St) (l m : List UInt8) : absorb s (l ++ m) = absorb (absorb s l).1 ((absorb s l).2 ++ m) := absorbN_app _ s l m (Nat.le_refl _)

theorem absorb_round (s : St) (x l : List UInt8) (f : Nat) (hx : x.length = f) (hf : f < 64) (h : 64 ≤ f + l.length) :
    absorb s (x ++ l) = absorb (compress s (x ++ l.take (64 - f))) (l.drop (64 - f)) := by
  rw [absorb_long _ _ (by simp; omega), List.take_append, List.drop_append, List.take_of_length_le (by omega), List.drop_of_length_le (by omega), hx]
  rfl

/-- The number of bits, in eight bytes; and what is put behind the bytes that are left. -/
def lenB (N : Nat) (k : Nat) : List UInt8 := (List.range k).map fun j => UInt8.ofNat (8 * N / 2 ^ (56 - 8 * j))
def zeros (n : Nat) : List UInt8 := List.replicate n 0
def finish (s : St) (r : List UInt8) (N : Nat) : St :=
  if 56 ≤ r.length then compress (compress s (r ++ 128 :: zeros (63 - r.length))) (zeros 56 ++ lenB N 8)
  else compress s (r ++ 128 :: zeros (55 - r.length) ++ lenB N 8)
def digestSt (s : St) (r : List UInt8) (N : Nat) : List UInt8 := textB (finish s r N).toL
/-- The digest of bytes. -/
def sha (l : List UInt8) : List UInt8 := digestSt (absorb iv l).1 (absorb iv l).2 l.length
theorem lenB_len (N k : Nat) : (lenB N k).length = k := by simp [lenB]
theorem lenB_succ (N k : Nat) : lenB N (k + 1) = lenB N k ++ [UInt8.ofNat (8 * N / 2 ^ (56 - 8 * k))] := by
  simp [lenB, List.range_succ]
theorem zeros_len (n : Nat) : (zeros n).length = n := by simp [zeros]
/-- A block whose length is written in, byte by byte. -/
def lenBlk (pre : List UInt8) (N k : Nat) : List UInt8 := pre ++ lenB N k ++ zeros (8 - k)
theorem lenBlk_len (pre : List UInt8) (N k : Nat) (h : pre.length = 56) (hk : k ≤ 8) : (lenBlk pre N k).length = 64 := by
  simp [lenBlk, lenB_len, zeros_len, h]; omega
theorem lenBlk_set (pre : List UInt8) (N k : Nat) (h : pre.length = 56) (hk : k < 8) : (lenBlk pre N k).set (56 + k) (UInt8.ofNat (8 * N / 2 ^ (56 - 8 * k))) = lenBlk pre N (k + 1) := by
  unfold lenBlk
  rw [List.set_append_right _ _ (by simp [lenB_len, h]), lenB_succ, zeros, zeros, show 8 - k = (8 - (k + 1)) + 1 by omega, List.replicate_succ]
  simp [lenB_len, h]

theorem mark_set (r : List UInt8) (m : Nat) (h : r.length = m) (hm : m < 64) : (r ++ zeros (64 - m)).set m 128 = r ++ 128 :: zeros (63 - m) := by
  rw [List.set_append_right _ _ (by omega), h, Nat.sub_self, zeros, zeros, show 64 - m = (63 - m) + 1 by omega, List.replicate_succ]
  rfl
theorem mark_blk (r : List UInt8) (m N : Nat) (h : r.length = m) (hm : m < 56) : r ++ 128 :: zeros (63 - m) = lenBlk (r ++ 128 :: zeros (55 - m)) N 0 := by
  unfold lenBlk lenB zeros
  rw [show 63 - m = (55 - m) + 8 by omega, ← List.replicate_append_replicate]
  simp
theorem zeros_blk (N : Nat) : zeros 64 = lenBlk (zeros 56) N 0 := by
  unfold lenBlk lenB zeros; rfl
theorem lenBlk_full (pre : List UInt8) (N : Nat) : lenBlk pre N 8 = pre ++ lenB N 8 := by
  simp [lenBlk, zeros]

/-- Hexadecimal digits. -/
def hexC (n : Nat) : UInt8 := if n < 10 then UInt8.ofNat (48 + n) else UInt8.ofNat (87 + n)
def hexL (l : List UInt8) : List UInt8 := l.flatMap fun b => [hexC (b.toNat / 16), hexC (b.toNat % 16)]
theorem hexL_len (l : List UInt8) : (hexL l).length = 2 * l.length := by
  induction l with
  | nil => rfl
  | cons x l ih => simp [hexL] at ih ⊢; omega
theorem hexL_snoc (l : List UInt8) (k : Nat) (h : k < l.length) : hexL (l.take (k + 1)) = hexL (l.take k) ++ [hexC ((l.getD k 0).toNat / 16), hexC ((l.getD k 0).toNat % 16)] := by
  unfold hexL
  rw [List.take_succ_eq_append_getElem h, List.flatMap_append]
  simp [h]
/-- The value of a digit, or -1. -/
def digS (b : UInt8) : Int := if 48 ≤ b.toNat ∧ b.toNat ≤ 57 then b.toNat - 48 else if 97 ≤ b.toNat ∧ b.toNat ≤ 102 then b.toNat - 87 else -1
def hexTab : ByteArray := ⟨#[48, 49, 50, 51, 52, 53, 54, 55, 56, 57, 97, 98, 99, 100, 101, 102]⟩
theorem tab_get (n : Nat) (h : n < 16) : hexTab[n]? = some (hexC n) := by
  have : ∀ m : Fin 16, hexTab[m.val]? = some (hexC m.val) := by decide +kernel
  exact this ⟨n, h⟩
theorem ub_back (b : UInt8) : (ub b).toNat.toUInt8 = b := by simp [ub]
theorem dig_eq (b : UInt8) : firstIdx hexTab b = digS b := by
  have : ∀ m : Fin 256, firstIdx hexTab (UInt8.ofNat m.val) = digS (UInt8.ofNat m.val) := by decide +kernel
  have h := this ⟨b.toNat, b.toNat_lt⟩
  simpa using h

/-- The bytes of digits, two by two. -/
def pairB (a b : UInt8) : UInt8 := UInt8.ofNat (digS a * 16 + digS b).toNat
def decB (l : List UInt8) (k : Nat) : List UInt8 := (List.range k).map fun j => pairB (l.getD (2 * j) 0) (l.getD (2 * j + 1) 0)
def okHex (l : List UInt8) (k : Nat) : Prop := ∀ j, j < k → 0 ≤ digS (l.getD j 0)
def FH (l str : List UInt8) (code : Int) : Prop :=
  (l.length % 2 = 0 ∧ okHex l l.length ∧ str = decB l (l.length / 2) ∧ code = 0) ∨ (¬ (l.length % 2 = 0 ∧ okHex l l.length) ∧ str = [] ∧ code = 2)
theorem decB_len (l : List UInt8) (k : Nat) : (decB l k).length = k := by simp [decB]
theorem decB_succ (l : List UInt8) (k : Nat) : decB l (k + 1) = decB l k ++ [pairB (l.getD (2 * k) 0) (l.getD (2 * k + 1) 0)] := by
  simp [decB, List.range_succ]
theorem digS_le (b : UInt8) : digS b ≤ 15 := by unfold digS; split <;> (try split) <;> omega
theorem digS_ge (b : UInt8) : -1 ≤ digS b := by unfold digS; split <;> (try split) <;> omega
theorem pair_or (a b : UInt8) (ha : 0 ≤ digS a) (hb : 0 ≤ digS b) : bits .or .i64 (digS a * 16) (digS b) = digS a * 16 + digS b := by
  have h1 := digS_le a
  have h2 := digS_le b
  have h62 : (2 : Int) ^ 62 = 4611686018427387904 := by decide
  exact bits_join .i64 62 (by decide) (fun n h0 h => IntWalk.i64_in n (by rw [h62] at h; omega)) 4 _ _ (by omega) (by omega) (by rw [h62]; omega) hb (by omega) (by rw [h62]; omega)
theorem pair_int (a b : UInt8) (ha : 0 ≤ digS a) (hb : 0 ≤ digS b) : (digS a * 16 + digS b) % 256 = ub (pairB a b) := by
  unfold ub pairB
  rw [UInt8.toNat_ofNat']
  have h1 := digS_le a
  have h2 := digS_le b
  omega

/-- The reference's digits, with all its wraps. -/
def nibW (x c : UInt8) : UInt8 := if 97 ≤ c.toNat then x * 16 + c - 97 + 10 else x * 16 + c - 48
def accW (a b : UInt8) : Nat → UInt8
  | 0 => 0
  | 1 => nibW 0 a
  | _ => nibW (nibW 0 a) b
def refDec (l : List UInt8) (k : Nat) : List UInt8 := (List.range k).map fun j => accW (l.getD (2 * j) 0) (l.getD (2 * j + 1) 0) 2
theorem refDec_len (l : List UInt8) (k : Nat) : (refDec l k).length = k := by simp [refDec]
theorem refDec_succ (l : List UInt8) (k : Nat) : refDec l (k + 1) = refDec l k ++ [accW (l.getD (2 * k) 0) (l.getD (2 * k + 1) 0) 2] := by
  simp [refDec, List.range_succ]
theorem nib_hi (x c : UInt8) (h : 97 ≤ ub c) : ub (nibW x c) = ((ub x * 16 % 256 + ub c) % 256 - 97) % 256 % 256 + 10 - 256 * (((((ub x * 16 % 256 + ub c) % 256 - 97) % 256) + 10) / 256) := by
  unfold ub at *
  unfold nibW
  rw [if_pos (by omega), UInt8.toNat_add, UInt8.toNat_sub, UInt8.toNat_add, UInt8.toNat_mul]
  have e1 : (16 : UInt8).toNat = 16 := rfl
  have e2 : (97 : UInt8).toNat = 97 := rfl
  have e3 : (10 : UInt8).toNat = 10 := rfl
  rw [e1, e2, e3]
  omega
theorem nib_hi' (x c : UInt8) (h : 97 ≤ ub c) : ub (nibW x c) = ((ub x * 16 + ub c) - 97 + 10) % 256 := by
  rw [nib_hi x c h]; omega
theorem nib_lo' (x c : UInt8) (h : ub c < 97) : ub (nibW x c) = ((ub x * 16 + ub c) - 48) % 256 := by
  unfold ub at *
  unfold nibW
  rw [if_neg (by omega), UInt8.toNat_sub, UInt8.toNat_add, UInt8.toNat_mul]
  have e1 : (16 : UInt8).toNat = 16 := rfl
  have e2 : (48 : UInt8).toNat = 48 := rfl
  rw [e1, e2]
  omega
/-- A digit's character comes back. -/
theorem dig_back (a : UInt8) (h : 0 ≤ digS a) : hexC (digS a).toNat = a := by
  have : ∀ m : Fin 256, 0 ≤ digS (UInt8.ofNat m.val) → hexC (digS (UInt8.ofNat m.val)).toNat = UInt8.ofNat m.val := by decide +kernel
  have h2 := this ⟨a.toNat, a.toNat_lt⟩
  simp only [UInt8.ofNat_toNat] at h2
  exact h2 h
theorem dig_hexC (n : Nat) (h : n < 16) : digS (hexC n) = n := by
  have : ∀ m : Fin 16, digS (hexC m.val) = (m.val : Int) := by decide +kernel
  exact this ⟨n, h⟩
theorem nib_dig (a b : UInt8) (ha : 0 ≤ digS a) (hb : 0 ≤ digS b) : accW a b 2 = pairB a b := by
  have k1 : ∀ m : Fin 256, 0 ≤ digS (UInt8.ofNat m.val) → nibW 0 (UInt8.ofNat m.val) = UInt8.ofNat (digS (UInt8.ofNat m.val)).toNat := by decide +kernel
  have k2 : ∀ n : Fin 16, ∀ m : Fin 256, 0 ≤ digS (UInt8.ofNat m.val) → nibW (UInt8.ofNat n.val) (UInt8.ofNat m.val) = UInt8.ofNat ((n.val : Int) * 16 + digS (UInt8.ofNat m.val)).toNat := by decide +kernel
  have h1 := k1 ⟨a.toNat, a.toNat_lt⟩
  simp only [UInt8.ofNat_toNat] at h1
  have hn : (digS a).toNat < 16 := by have := digS_le a; omega
  have h2 := k2 ⟨(digS a).toNat, hn⟩ ⟨b.toNat, b.toNat_lt⟩
  simp only [UInt8.ofNat_toNat] at h2
  show nibW (nibW 0 a) b = _
  rw [h1 ha, h2 hb]
  unfold pairB
  rw [Int.toNat_of_nonneg ha]
theorem pair_hi (a b : UInt8) (ha : 0 ≤ digS a) (hb : 0 ≤ digS b) : hexC ((pairB a b).toNat / 16) = a ∧ hexC ((pairB a b).toNat % 16) = b := by
  have h1 := digS_le a
  have h2 := digS_le b
  have e : (pairB a b).toNat = (digS a).toNat * 16 + (digS b).toNat := by
    unfold pairB; rw [UInt8.toNat_ofNat']; omega
  rw [e, show ((digS a).toNat * 16 + (digS b).toNat) / 16 = (digS a).toNat by omega, show ((digS a).toNat * 16 + (digS b).toNat) % 16 = (digS b).toNat by omega]
  exact ⟨dig_back a ha, dig_back b hb⟩
theorem hexL_get (l : List UInt8) (j : Nat) (h : j < 2 * l.length) : (hexL l).getD j 0 = if j % 2 = 0 then hexC ((l.getD (j / 2) 0).toNat / 16) else hexC ((l.getD (j / 2) 0).toNat % 16) := by
  induction l generalizing j with
  | nil => simp at h
  | cons x l ih =>
    have e : hexL (x :: l) = hexC (x.toNat / 16) :: hexC (x.toNat % 16) :: hexL l := rfl
    rw [e]
    match j with
    | 0 => simp
    | 1 => simp
    | j + 2 =>
      have := ih j (by simp at h; omega)
      simp only [List.getD_cons_succ]
      rw [this, show (j + 2) % 2 = j % 2 by omega, show (j + 2) / 2 = j / 2 + 1 by omega, List.getD_cons_succ]
theorem ext_getD {l m : List UInt8} (h : l.length = m.length) (hg : ∀ j, j < l.length → l.getD j 0 = m.getD j 0) : l = m := by
  apply List.ext_getElem h
  intro j h1 h2
  have := hg j h1
  simpa [h1, h2] using this
theorem decB_get (l : List UInt8) (k j : Nat) (h : j < k) : (decB l k).getD j 0 = pairB (l.getD (2 * j) 0) (l.getD (2 * j + 1) 0) := by
  simp [decB, h]
/-- What was written is read, and what is read was written so. -/
theorem hex_dec (l : List UInt8) (he : l.length % 2 = 0) (hok : okHex l l.length) : hexL (decB l (l.length / 2)) = l := by
  apply ext_getD
  · rw [hexL_len, decB_len]; omega
  · intro j hj
    rw [hexL_len, decB_len] at hj
    rw [hexL_get _ _ (by rw [decB_len]; exact hj), decB_get _ _ _ (by omega)]
    have hp := pair_hi (l.getD (2 * (j / 2)) 0) (l.getD (2 * (j / 2) + 1) 0) (hok _ (by omega)) (hok _ (by omega))
    split
    · rw [hp.1, show 2 * (j / 2) = j by omega]
    · rw [hp.2, show 2 * (j / 2) + 1 = j by omega]
theorem ok_hex (b : List UInt8) : okHex (hexL b) (hexL b).length := by
  intro j hj
  rw [hexL_len] at hj
  rw [hexL_get _ _ hj]
  split
  · rw [dig_hexC _ (by have := (b.getD (j / 2) 0).toNat_lt; omega)]; omega
  · rw [dig_hexC _ (by omega)]; omega
theorem dec_hex (b : List UInt8) : decB (hexL b) ((hexL b).length / 2) = b := by
  rw [hexL_len, show 2 * b.length / 2 = b.length by omega]
  apply ext_getD (decB_len _ _)
  intro j hj
  rw [decB_len] at hj
  rw [decB_get _ _ _ hj, hexL_get _ _ (by omega), hexL_get _ _ (by omega), if_pos (by omega), if_neg (by omega), show 2 * j / 2 = j by omega, show (2 * j + 1) / 2 = j by omega]
  unfold pairB
  have h := (b.getD j 0).toNat_lt
  rw [dig_hexC _ (by omega), dig_hexC _ (by omega)]
  have e : (((b.getD j 0).toNat / 16 : Nat) : Int) * 16 + (((b.getD j 0).toNat % 16 : Nat) : Int) = ((b.getD j 0).toNat : Int) := by omega
  rw [e, Int.toNat_natCast, UInt8.ofNat_toNat]
theorem refDec_ok (l : List UInt8) (hok : okHex l l.length) (he : l.length % 2 = 0) : refDec l (l.length / 2) = decB l (l.length / 2) := by
  unfold refDec decB
  apply List.map_congr_left
  intro j hj
  rw [List.mem_range] at hj
  exact nib_dig _ _ (hok _ (by omega)) (hok _ (by omega))
end Sha
end Go.Proofs.YtmebogaenbjmnaaDoor
