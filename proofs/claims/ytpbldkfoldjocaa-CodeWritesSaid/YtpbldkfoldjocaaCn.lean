/- The law CodeBack. -/
import Derived.Test.YtpbldkfoldjocaaCm
namespace Go.Proofs.Ytpbldkfoldjocaa
open Go.RowKit
open Cod
theorem str_back (s : ByteArray) : ByteArray.mk s.data.toList.toArray = s := by
  cases s; simp
theorem sbytes_inj : ∀ {a b : List ByteArray}, sbytes a = sbytes b → a = b
  | [], [], _ => rfl
  | [], _ :: _, h => by simp [sbytes] at h
  | _ :: _, [], h => by simp [sbytes] at h
  | s :: a, t :: b, h => by
    simp only [sbytes, List.map_cons, List.cons.injEq] at h
    have h1 : s = t := by rw [← str_back s, ← str_back t, h.1]
    rw [h1, sbytes_inj (a := a) (b := b) h.2]
theorem list_own (A : Option Addr) (n c : Nat) (B : Option Addr) (l d : Nat) (bs : List UInt8) (ss : List ByteArray) (w : World) (hl : bs.length = l) (hb : Sl w B (bcells bs)) (hn : ss.length = n) (hA : Sl w A (scells ss)) (hn63 : n ≤ 70368744177664) (h45 : l + (encL (sbytes ss)).length ≤ 35184372088832) :
    Calls Try.prog 13 #[.slice B l d, .slice A n c] w fun e w' => ∃ A' c', e = .returned (.slice A' (bs ++ encL (sbytes ss)).length c') ∧ Sl w' A' (bcells (bs ++ encL (sbytes ss))) ∧ (bs ++ encL (sbytes ss)).length ≤ c' ∧ Below w.heap.size w w' :=
  (list_any B l d bs A n c ss w hl hb hn hA hn63 h45).mono fun e w' ⟨v, h1, h2, h3⟩ => by
    obtain ⟨A', c', rfl, h4, h5, _⟩ := h2.slice
    exact ⟨A', c', h1, h4, h5, h3⟩
theorem text_own (B : Option Addr) (l d : Nat) (bs : List UInt8) (s : ByteArray) (w : World) (hl : bs.length = l) (hb : Sl w B (bcells bs)) (hs : s.size ≤ 70368744177664) (h45 : l ≤ 35184372088832) :
    Calls Try.prog 11 #[.slice B l d, .string s] w fun e w' => ∃ A' c', e = .returned (.slice A' (bs ++ encT s.data.toList).length c') ∧ Sl w' A' (bcells (bs ++ encT s.data.toList)) ∧ (bs ++ encT s.data.toList).length ≤ c' ∧ Below w.heap.size w w' :=
  (text_any B l d bs s w hl hb hs h45).mono fun e w' ⟨v, h1, h2, h3⟩ => by
    obtain ⟨A', c', rfl, h4, h5, _⟩ := h2.slice
    exact ⟨A', c', h1, h4, h5, h3⟩
theorem encL_le (ss : List ByteArray) (h1 : ss.length ≤ 50) (h2 : ∀ s ∈ ss, s.size ≤ 1000) : (encL (sbytes ss)).length ≤ 51000 := by
  have h3 := encI_le (sbytes ss) 1000 (fun s hs => by
    simp only [sbytes, List.mem_map] at hs
    obtain ⟨x, hx, rfl⟩ := hs
    rw [bsize]; exact h2 x hx) (by omega)
  have h4 := enc_len10 (v := (sbytes ss).length) (by rw [sbytes_len]; omega)
  unfold encL
  rw [List.length_append]
  rw [sbytes_len] at h3
  have : (1000 + 9) * ss.length ≤ 1009 * 50 := Nat.mul_le_mul (by omega) h1
  omega
theorem readNum0 (B : Option Addr) (l d : Nat) (bs : List UInt8) (w : World) (hl : bs.length = l) (hb : Sl w B (bcells bs)) (hld : l ≤ d) (h47 : l ≤ 140737488355328) (v n x : Nat) (hX : numS bs = (v, n, x)) :
    Calls Try.prog 15 #[.agg (rdc (.slice B l d) 0 0).toArray] w (RDP bs n x (.int .i64 v) w) := by
  have h := readNum_ok B l d bs 0 w hl hb hld h47 (by omega) v n x (by rw [List.drop_zero]; exact hX)
  rw [show ((0 : Nat) : Int) + (n : Int) = n by omega] at h
  exact h
theorem readText_at (B : Option Addr) (l d : Nat) (bs : List UInt8) (p q : Nat) (most : Int) (w : World) (hl : bs.length = l) (hb : Sl w B (bcells bs)) (hld : l ≤ d) (h47 : l ≤ 140737488355328) (hp : p ≤ l) (t : List UInt8) (n x : Nat) (hX : textS (bs.drop p) most = (t, n, x)) (hq : q = p + n) :
    Calls Try.prog 16 #[.agg (rdc (.slice B l d) p 0).toArray, .int .i64 most] w (RDP bs q x (.string ⟨t.toArray⟩) w) := by
  have h := readText_ok B l d bs p most w hl hb hld h47 hp t n x hX
  rw [show (p : Int) + (n : Int) = (q : Int) by omega] at h
  exact h
theorem readList_at (B : Option Addr) (l d : Nat) (bs : List UInt8) (p q : Nat) (many most : Int) (w : World) (hl : bs.length = l) (hb : Sl w B (bcells bs)) (hld : l ≤ d) (hp : p ≤ l) (hl40 : l ≤ 1099511627776) (tl : List (List UInt8)) (n x : Nat) (hX : listS (bs.drop p) many most = (tl, n, x)) (hq : q = p + n) :
    Calls Try.prog 17 #[.agg (rdc (.slice B l d) p 0).toArray, .int .i64 many, .int .i64 most] w (RDLP bs q x tl w) := by
  have h := readList_ok B l d bs p many most w hl hb hld (by omega) hp hl40 tl n x hX
  rw [show (p : Int) + (n : Int) = (q : Int) by omega] at h
  exact h
theorem done_end (A : Option Addr) (l c : Nat) (w : World) (hl : l ≤ 9223372036854775807) : Calls Try.prog 19 #[.agg (rdc (.slice A l c) l 0).toArray] w fun e w' => e = .returned (.int .i64 0) ∧ Below w.heap.size w w' :=
  (done_any A l c l 0 w hl).mono fun e w' ⟨h1, h2⟩ => ⟨by rw [h1]; unfold doneS blkS; simp, h2⟩
theorem done_more (A : Option Addr) (l c p : Nat) (w : World) (hl : l ≤ 9223372036854775807) (hp : p < l) : Calls Try.prog 19 #[.agg (rdc (.slice A l c) p 0).toArray] w fun e w' => e = .returned (.int .i64 2) ∧ Below w.heap.size w w' :=
  (done_any A l c p 0 w hl).mono fun e w' ⟨h1, h2⟩ => ⟨by
    have h3 : blkS l p 0 = 0 := by unfold blkS; simp; omega
    rw [h1]; unfold doneS; rw [if_pos h3, if_pos (by omega)], h2⟩
set_option maxRecDepth 100000 in
set_option maxHeartbeats 4000000 in
theorem back_main (n : Nat) (s : ByteArray) (A : Option Addr) (m c : Nat) (ss : List ByteArray) (B : Option Addr) (l d : Nat) (R : List UInt8) (w : World) (hn : n ≤ 4611686018427387904) (hs : s.size ≤ 1000)
    (hm : ss.length = m) (hA : Sl w A (scells ss)) (hm50 : ss.length ≤ 50) (hsz : ∀ s ∈ ss, s.size ≤ 1000) (hl : R.length = l) (hB : Sl w B (bcells R)) (hl100 : l ≤ 100) :
    Calls Try.prog 4 #[.int .i64 n, .string s, .slice A m c, .slice B l d] w fun e w' => e = .returned (.bool true) ∧ Below w.heap.size w w' := by
  have HL : Hid (R.length = l) := hl
  have HM : Hid (ss.length = m) := hm
  have hm50' : m ≤ 50 := by omega
  have hLL := encL_le ss hm50 hsz
  have HSZ : Hid (∀ s ∈ ss, s.size ≤ 1000) := hsz
  have hT9 := encT_len s.data.toList (by rw [bsize]; omega)
  rw [bsize] at hT9
  have hE9 := enc_len9 hn
  clear hl hm hsz
  go_enter Try.func4, Try.ntmps4
  go_wp2_with fail
  refine (great_any A m c ss _ HM.out hA (by omega)).mono ?_
  rintro e w1 ⟨b, rfl, hb, rfl⟩
  cases b with
  | true =>
    go_wp2_with fail
    refine (knows_any _).mono ?_
    rintro e w1 ⟨rfl, hb1⟩
    go_wp2_with fail
    go_ret
    exact ⟨rfl, hb1⟩
  | false =>
    clear hb
    go_wp2_with fail
    refine (num_own n _ hn).mono ?_
    rintro e w1 ⟨A1, c1, rfl, hs1, hc1, hb1⟩
    obtain ⟨E1, hE1⟩ : ∃ E, E = enc n := ⟨_, rfl⟩
    have HE1 : Hid (E1 = enc n) := hE1
    rw [← hE1] at hs1 hc1 hE9 ⊢
    clear hE1
    obtain ⟨la, hla⟩ : ∃ la, E1.length = la := ⟨_, rfl⟩
    have HLA : Hid (E1.length = la) := hla
    rw [hla] at hc1 hE9 ⊢
    clear hla
    go_wp2_with fail
    refine (text_own A1 la c1 E1 s _ HLA.out hs1 (by omega) (by omega)).mono ?_
    rintro e w2 ⟨A2, c2, rfl, hs2, hc2, hb2⟩
    obtain ⟨E2, hE2⟩ : ∃ E, E = E1 ++ encT s.data.toList := ⟨_, rfl⟩
    have HE2 : Hid (E2 = E1 ++ encT s.data.toList) := hE2
    rw [← hE2] at hs2 hc2 ⊢
    obtain ⟨lb, hlb⟩ : ∃ lb, E2.length = lb := ⟨_, rfl⟩
    have HLB : Hid (E2.length = lb) := hlb
    have HB1 : Hid (lb = la + (encT s.data.toList).length) := by unfold Hid; rw [← hlb, hE2, List.length_append, HLA.out]
    have hb1' : lb ≤ la + (encT s.data.toList).length := by rw [HB1.out]; omega
    rw [hlb] at hc2 ⊢
    clear hE2 hlb
    have hb12 := hb1.trans (hb2.mono hb1.size)
    go_wp2_with fail
    refine (list_own A m c A2 lb c2 E2 ss _ HLB.out hs2 HM.out (hA.below hb12) (by omega) (by omega)).mono ?_
    rintro e w3 ⟨A3, c3, rfl, hs3, hc3, hb3⟩
    obtain ⟨E3, hE3⟩ : ∃ E, E = E2 ++ encL (sbytes ss) := ⟨_, rfl⟩
    have HE3 : Hid (E3 = E2 ++ encL (sbytes ss)) := hE3
    rw [← hE3] at hs3 hc3 ⊢
    obtain ⟨lc, hlc⟩ : ∃ lc, E3.length = lc := ⟨_, rfl⟩
    have HLC : Hid (E3.length = lc) := hlc
    have hlb1 := HB1.out
    have hlc1 : lc = lb + (encL (sbytes ss)).length := by rw [← hlc, hE3, List.length_append, HLB.out]
    rw [hlc] at hc3 ⊢
    clear hE3 hlc
    have hb13 := hb12.trans (hb3.mono hb12.size)
    have hB3 := hB.below hb13
    have HLS : Hid (lc = la + (encT s.data.toList).length + (encL (sbytes ss)).length) := by unfold Hid; omega
    have hlcb : lc ≤ 60000 := by omega
    have hla1 : la ≤ lc := by omega
    have hlb2 : lb ≤ lc := by omega
    clear hs1 hs2 hb1 hb2 hb3 hb12 hc1 hc2 hlb1 hlc1 hb1' hLL hT9 hE9 hB
    have o0 : (w3.alloc (.cells #[] 5)).ownsRow w3.heap.size 5 1 (.slice (some ⟨w3.heap.size, 0, none⟩) 0 0) 0 [] := own_lit w3 w3.heap.size 5 [] 0 rfl (Nat.le_refl _) (by omega)
    have p0 : Below w3.heap.size w3 (w3.alloc (.cells #[] 5)) := (Below.refl _ _).alloc (Nat.le_refl _) _
    go_wp2_with (first
      | (refine wpList_app rfl (.tmp 50) (.tmp 51) 23 rfl bytesTy w3.heap.size _ 0 [] rfl o0 A3 lc c3 (bcells E3) rfl (by rw [bcells_len]; exact HLC.out) (hs3.below p0) (bcells_one _) (by omega) (by simp) ?_; intro v4 w4 hown4 hgr4 hbl4; have p1 := below_app p0 hgr4 o0 (Nat.le_refl _) (by simp); simp only [Nat.zero_add, List.nil_append] at hown4; have sp1 := p1.size)
      | (refine wpList_app rfl (.tmp 52) (.tmp 53) 23 rfl bytesTy w3.heap.size v4 lc (bcells E3) rfl hown4 B l d (bcells R) rfl (by rw [bcells_len]; exact HL.out) (hB3.below p1) (bcells_one _) (by omega) (by omega) ?_; intro v5 w5 hown5 hgr5 hbl5; have p2 := below_app p1 hgr5 hown4 (Nat.le_refl _) (by omega); rw [bcells_app] at hown5; obtain ⟨A5, c5, rfl, hs5, hc5, _⟩ := own_slice hown5))
    have p3 := hb13.trans (p2.mono hb13.size)
    have HT : Hid ((E3 ++ R).length = lc + l) := by unfold Hid; rw [List.length_append, HLC.out, HL.out]
    have HN1 : Hid (numS (E3 ++ R) = (n, la, 0)) := by
      unfold Hid
      rw [HE3.out, HE2.out, List.append_assoc, List.append_assoc, HE1.out, num_enc n _ hn, ← HE1.out, HLA.out]
    have HN2 : Hid (textS ((E3 ++ R).drop la) 1000 = (s.data.toList, (encT s.data.toList).length, 0)) := by
      unfold Hid
      have : (E3 ++ R).drop la = encT s.data.toList ++ (encL (sbytes ss) ++ R) := by
        rw [HE3.out, HE2.out, List.append_assoc, List.append_assoc, ← HLA.out, List.drop_left]
      rw [this, text_enc _ _ _ (by rw [bsize]; omega) (by rw [bsize]; omega)]
    have HN3 : Hid (listS ((E3 ++ R).drop lb) 50 1000 = (sbytes ss, (encL (sbytes ss)).length, 0)) := by
      unfold Hid
      have : (E3 ++ R).drop lb = encL (sbytes ss) ++ R := by
        rw [HE3.out, List.append_assoc, ← HLB.out, List.drop_left]
      rw [this, list_enc _ _ _ _ (by rw [sbytes_len]; omega) (by rw [sbytes_len]; omega) (fun x hx => by
        simp only [sbytes, List.mem_map] at hx
        obtain ⟨y, hy, rfl⟩ := hx
        have := HSZ.out y hy
        rw [bsize]; omega)]
    have HQ3 : Hid (lc = lb + (encL (sbytes ss)).length) := by unfold Hid; have := HLS.out; have := HB1.out; omega
    clear o0 p0 hown4 hown5 hgr4 hgr5 hbl4 hbl5 p1 p2 sp1 hs3 hc3
    generalize E3 ++ R = T at *
    refine (readNum0 A5 (lc + l) c5 T _ HT.out hs5 hc5 (by omega) n la 0 HN1.out).mono ?_
    rintro e w6 ⟨A6, c6, rfl, hs6, hc6, _, hA6, hb6⟩
    rw [HT.out] at hc6 ⊢
    have k6 : At (w6.alloc (.cells (rdc (.slice none 0 0) 0 0).toArray 36)) w6.heap.size 36 (rdc (.slice none 0 0) 0 0) := At.new_ w6 _ 36 _ rfl
    have l6 : Below w6.heap.size w6 (w6.alloc (.cells (rdc (.slice none 0 0) 0 0).toArray 36)) := (Below.refl _ _).alloc (Nat.le_refl _) _
    have b6 := p3.trans (hb6.mono p3.size)
    clear hs5 hc5 hb6 p3 hA6
    go_wp2_with (first
      | (refine wpList_storeB rfl rfl 36 (.tmp 12) (.tmp 57) rfl ty36 w6.heap.size rfl (rdc (.slice A6 (lc + l) c6) la 0) rfl 36 _ k6 rfl rfl (rdc_one _ _ _ _ _) ?_; intro x6 kx6 ox6; have q6 := ox6.below _ _ l6 (Nat.le_refl _))
      | (refine wpList_loadA rfl 36 (.tmp 12) rfl ty36 w6.heap.size 0 rfl 36 _ kx6 (rdc (.slice A6 (lc + l) c6) la 0) rfl (all_at _) ?_))
    have hs6x := hs6.below q6
    have b6x := b6.trans (q6.mono b6.size)
    have g6 := kx6.lt
    have gw : w.heap.size ≤ w6.heap.size := b6.size
    clear hs6 b6 k6 l6 ox6 q6
    generalize w6.heap.size = G at *
    refine (readText_at A6 (lc + l) c6 T la lb 1000 _ HT.out hs6x hc6 (by omega) (by omega) s.data.toList _ 0 HN2.out HB1.out).mono ?_
    rintro e w7 ⟨A7, c7, rfl, hs7, hc7, _, hA7, hb7⟩
    rw [HT.out] at hc7 ⊢
    rw [str_back]
    have k7 := kx6.below hb7 g6
    have b7 := b6x.trans (hb7.mono b6x.size)
    have HA7 : Hid (∀ b o s, A7 = some ⟨b, o, s⟩ → x6.heap.size ≤ b) := hA7
    clear hs6x b6x hc6 kx6 hb7 hA7
    go_wp2_with (first
      | (refine wpList_storeB rfl rfl 36 (.tmp 12) (.tmp 62) rfl ty36 G rfl (rdc (.slice A7 (lc + l) c7) lb 0) rfl 36 _ k7 rfl rfl (rdc_one _ _ _ _ _) ?_; intro x7 kx7 ox7)
      | (refine wpList_loadA rfl 36 (.tmp 12) rfl ty36 G 0 rfl 36 _ kx7 (rdc (.slice A7 (lc + l) c7) lb 0) rfl (all_at _) ?_))
    have hs7x := ox7.sl hs7 HA7.out g6
    have b7x := ox7.below _ _ b7 gw
    have g7 := kx7.lt
    clear hs7 b7 k7 ox7 HA7
    refine (readList_at A7 (lc + l) c7 T lb lc 50 1000 _ HT.out hs7x hc7 (by omega) (by omega) (sbytes ss) _ 0 HN3.out HQ3.out).mono ?_
    rintro e w8 ⟨A8, c8, V8, ss8, rfl, _, hc8, _, _, hos8, hss8, hb8⟩
    obtain rfl := sbytes_inj hss8
    obtain ⟨A9, c9, rfl, hs9, _, _, hA9⟩ := hos8.slice
    rw [HT.out] at hc8 ⊢
    rw [HM.out]
    have k8 := kx7.below hb8 g7
    have b8 := b7x.trans (hb8.mono b7x.size)
    have HA9 : Hid (∀ b o s, A9 = some ⟨b, o, s⟩ → x7.heap.size ≤ b) := hA9
    clear hs7x b7x hc7 kx7 hb8 hA9 hos8 hss8
    by_cases hl0 : l = 0
    · subst hl0
      simp only [Nat.add_zero] at hc8 k8 ⊢
      go_wp2_with (first
        | (refine wpList_storeB rfl rfl 36 (.tmp 12) (.tmp 67) rfl ty36 G rfl (rdc (.slice A8 lc c8) lc 0) rfl 36 _ k8 rfl rfl (rdc_one _ _ _ _ _) ?_; intro x8 kx8 ox8; have hs9x := ox8.sl hs9 HA9.out g7; have b8x := ox8.below _ _ b8 gw))
      refine (same_any A9 A m c9 c ss8 _ HM.out hs9x (hA.below b8x) (by omega)).mono ?_
      rintro e w9 ⟨rfl, hb9⟩
      have g8 := kx8.lt
      have k9 := kx8.below hb9 g8
      have b9 := b8x.trans (hb9.mono b8x.size)
      obtain ⟨u0, u1, u2, _, _, _⟩ := rd_cells k9
      clear hs9x b8x kx8 ox8 hb9 k8 b8 hs9
      go_wp2_with fail
      refine (done_end A8 lc c8 _ (by omega)).mono ?_
      rintro e w10 ⟨rfl, hb10⟩
      have b10 := b9.trans (hb10.mono b9.size)
      clear u0 u1 u2 k9 b9 hb10
      go_wp2_with fail
      refine (knows_any _).mono ?_
      rintro e w11 ⟨rfl, hb11⟩
      go_wp2_with fail
      go_ret
      exact ⟨rfl, b10.trans (hb11.mono b10.size)⟩
    · have hl0' : ((l : Int) == 0) = false := by simp [hl0]
      go_wp2_with (first
        | (refine wpList_storeB rfl rfl 36 (.tmp 12) (.tmp 67) rfl ty36 G rfl (rdc (.slice A8 (lc + l) c8) lc 0) rfl 36 _ k8 rfl rfl (rdc_one _ _ _ _ _) ?_; intro x8 kx8 ox8; have hs9x := ox8.sl hs9 HA9.out g7; have b8x := ox8.below _ _ b8 gw))
      refine (same_any A9 A m c9 c ss8 _ HM.out hs9x (hA.below b8x) (by omega)).mono ?_
      rintro e w9 ⟨rfl, hb9⟩
      have g8 := kx8.lt
      have k9 := kx8.below hb9 g8
      have b9 := b8x.trans (hb9.mono b8x.size)
      obtain ⟨u0, u1, u2, _, _, _⟩ := rd_cells k9
      clear hs9x b8x kx8 ox8 hb9 k8 b8 hs9
      go_wp2_with fail
      refine (done_more A8 (lc + l) c8 lc _ (by omega) (by omega)).mono ?_
      rintro e w10 ⟨rfl, hb10⟩
      have b10 := b9.trans (hb10.mono b9.size)
      clear u0 u1 u2 k9 b9 hb10
      go_wp2_with fail
      refine (knows_any _).mono ?_
      rintro e w11 ⟨rfl, hb11⟩
      go_wp2_with fail
      go_ret
      exact ⟨rfl, b10.trans (hb11.mono b10.size)⟩
end Go.Proofs.Ytpbldkfoldjocaa
