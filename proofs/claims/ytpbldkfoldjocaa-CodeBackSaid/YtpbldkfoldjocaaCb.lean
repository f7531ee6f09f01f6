/- code: putText, Text, List. -/
import Derived.Test.YtpbldkfoldjocaaCa
import Derived.Test.YtpbldkfoldjocaaStr
import Derived.Lib.AppendStr
namespace Go.Proofs.Ytpbldkfoldjocaa
open Go.RowKit
open Cod
theorem own_lit (w : World) (base : Nat) (e : TypeId) (cs : List Value) (n : Nat) (hn : cs.length = n) (hb : base ≤ w.heap.size) (hm : n ≤ 1000) :
    (w.alloc (.cells cs.toArray e)).ownsRow base e 1 (.slice (some ⟨w.heap.size, 0, none⟩) n n) n cs := by
  have := World.ownsRow_lit (base := base) (e := e) (size := 1) w cs.toArray n hb (by simp only [maxLen]; omega) (by simpa using hn)
  simpa using this
/-- 'append(b, s...)' of a string onto a row of the call's own. -/
theorem wpList_apps {P : Program} {ops : Array Oper} {rest : List Oper} {o : Oper} {a : Act} {w : World} {Q : Exit → Act → World → Prop} (hgd : o.guard = none) (sl x : Operand) (t u : TypeId)
    (ho : o.op = .call { callee := .builtin .append, args := #[sl, x], argTypes := #[t, u] })
    {e : TypeId} (E : ElemTy P t e (.int .u8 0) 1) (hu : P.underlying u = some .string) (base : Nat)
    (v : Value) (bs : List UInt8) (hs : a.eval sl = v) (hown : w.ownsRow base e 1 v bs.length (bcells bs)) (s : ByteArray) (hx : a.eval x = .string s)
    (hb : bs.length + s.size ≤ 140737488355328) (hbase : base ≤ w.heap.size)
    (h : ∀ v' w', w'.ownsRow base e 1 v' (bs ++ s.data.toList).length (bcells (bs ++ s.data.toList)) → w.grownBy w' v.ownBlock → wpList P ops Q rest (a.put o.dst v') w') : wpList P ops Q (o :: rest) a w := by
  obtain ⟨i, hi, hz, hsz, hby⟩ := E.info
  refine Lib.wpList_append_own_string w hgd sl x t u ho base e i E.ht hu hi hz hsz hby v bs.length (bcells bs) hs hown s hx (by simp only [maxLen]; omega) hb hbase fun v' w' h1 h2 _ => h v' w' ?_ h2
  have e1 : (bs ++ s.data.toList).length = bs.length + s.size := by rw [List.length_append]; congr 1
  rw [e1, ← bcells_app]
  exact h1
theorem strsTy : ElemTy Try.prog 22 9 (.string ⟨#[]⟩) 16 :=
  ⟨by kernel_rfl, info_parts (by kernel_rfl), rfl, by omega⟩
set_option maxRecDepth 100000 in
set_option maxHeartbeats 400000 in
theorem putText_any (base : Nat) (v0 : Value) (bs : List UInt8) (s : ByteArray) (w : World) (hown : Ow base w v0 bs) (hs : s.size ≤ 70368744177664) (hl : bs.length ≤ 35184372088832) (hbase : base ≤ w.heap.size) :
    Calls Try.prog 22 #[v0, .string s] w fun e w' => ∃ v, e = .returned v ∧ Ow base w' v (bs ++ encT s.data.toList) ∧ Below base w w' := by
  have HS : Hid (s.data.toList.length = s.size) := bsize s
  have h9 := enc_len10 (v := s.size) (by omega)
  have HL : Hid ((bs ++ enc s.size).length = bs.length + (enc s.size).length) := List.length_append
  go_enter Try.func22, Try.ntmps22
  go_wp2_with fail
  refine (putNum_any base v0 bs s.size _ hown (by omega) (by omega) hbase).mono ?_
  rintro e w1 ⟨v1, rfl, hown1, hb1⟩
  have hs1 := hb1.size
  unfold Ow at hown1
  go_wp2_with (refine wpList_apps rfl (.tmp 8) (.tmp 9) 23 9 rfl bytesTy underStr base v1 (bs ++ enc s.size) rfl hown1 s rfl (by rw [HL.out]; omega) (by omega) ?_; intro v2 w2 hown2 hgr2)
  have hb2 := below_app hb1 hgr2 hown1 (Nat.le_refl _) (by omega)
  go_ret
  refine ⟨v2, rfl, ?_, hb2⟩
  unfold Ow encT
  rw [HS.out, ← List.append_assoc]; exact hown2
set_option maxHeartbeats 400000 in
theorem text_any (B : Option Addr) (l d : Nat) (bs : List UInt8) (s : ByteArray) (w : World) (hl : bs.length = l) (hb : Sl w B (bcells bs)) (hs : s.size ≤ 70368744177664) (h45 : l ≤ 35184372088832) :
    Calls Try.prog 11 #[.slice B l d, .string s] w fun e w' => ∃ v, e = .returned v ∧ Ow w.heap.size w' v (bs ++ encT s.data.toList) ∧ Below w.heap.size w w' := by
  have HL : Hid (bs.length = l) := hl
  clear hl
  go_enter Try.func11, Try.ntmps11
  go_wp2_with fail
  refine (own_any B l d bs _ HL.out hb (by omega)).mono ?_
  rintro e w1 ⟨v1, rfl, hown, hb1⟩
  go_wp2_with fail
  refine (putText_any w.heap.size v1 bs s _ hown hs (by rw [HL.out]; omega) hb1.size).mono ?_
  rintro e w2 ⟨v2, rfl, hown2, hb2⟩
  go_wp2_with fail
  go_ret
  exact ⟨v2, rfl, hown2, hb1.trans hb2⟩
set_option maxRecDepth 100000 in
set_option maxHeartbeats 1000000 in
theorem list_any (B : Option Addr) (l d : Nat) (bs : List UInt8) (A : Option Addr) (n c : Nat) (ss : List ByteArray) (w : World) (hl : bs.length = l) (hb : Sl w B (bcells bs)) (hn : ss.length = n) (hA : Sl w A (scells ss))
    (hn63 : n ≤ 70368744177664) (h45 : l + (encL (sbytes ss)).length ≤ 35184372088832) :
    Calls Try.prog 13 #[.slice B l d, .slice A n c] w fun e w' => ∃ v, e = .returned v ∧ Ow w.heap.size w' v (bs ++ encL (sbytes ss)) ∧ Below w.heap.size w w' := by
  have HL : Hid (bs.length = l) := hl
  have HN : Hid (ss.length = n) := hn
  have HSN : Hid ((sbytes ss).length = n) := by show _ = _; rw [sbytes_len, hn]
  have HE : Hid (encL (sbytes ss) = enc n ++ encI (sbytes ss)) := by show _ = _; unfold encL; rw [HSN.out]
  have hel : l + (enc n).length + (encI (sbytes ss)).length ≤ 35184372088832 := by rw [HE.out, List.length_append] at h45; omega
  clear hl hn h45
  go_enter Try.func13, Try.ntmps13
  go_wp2_with fail
  refine (own_any B l d bs _ HL.out hb (by omega)).mono ?_
  rintro e w1 ⟨v1, rfl, hown, hb1⟩
  go_wp2_with fail
  refine (putNum_any w.heap.size v1 bs n _ hown (by omega) (by rw [HL.out]; omega) hb1.size).mono ?_
  rintro e w2 ⟨v2, rfl, hown2, hb2⟩
  have hb12 := hb1.trans hb2
  clear hown hb1 hb2
  go_wp2_with fail
  go_loopw [5, 7, 15] (fun v s i wr => ∃ k : Nat, k ≤ n ∧ i = .int .i64 k ∧ Ow w.heap.size wr v (bs ++ enc n ++ encI ((sbytes ss).take k)) ∧ Below w.heap.size w wr)
    (fun _ _ i _ => n - (intOf i).toNat)
  case atStart => exact ⟨0, by omega, rfl, by simpa [encI] using hown2, hb12⟩
  case round =>
    clear hown2 hb12
    obtain ⟨k, hk, rfl, hown, hbel⟩ := hrel
    by_cases hlt : k < n
    · obtain ⟨b, o, rfl, hblt, hcell⟩ := (hA.get (j := k) (by rw [scells_len, HN.out]; exact hlt))
      have hc0 := hcell k _ (scells_get ss k (by rw [HN.out]; exact hlt))
      have hX : encI ((sbytes ss).take (k + 1)) = encI ((sbytes ss).take k) ++ encT (ss.getD k ⟨#[]⟩).data.toList := by
        rw [encI_snoc _ k (by rw [HSN.out]; exact hlt), sbytes_get _ k (by rw [HN.out]; exact hlt)]
      have hle := encI_take_le (sbytes ss) (k + 1)
      have hcw := (hbel.cell (p := ⟨b, o + k, none⟩) hblt).trans hc0
      have HX : Hid (encI ((sbytes ss).take (k + 1)) = encI ((sbytes ss).take k) ++ encT (ss.getD k ⟨#[]⟩).data.toList) := hX
      have h1 := le_encT (ss.getD k ⟨#[]⟩).data.toList
      rw [hX, List.length_append] at hle
      rw [bsize] at h1
      clear hX hcell hc0
      generalize ss.getD k ⟨#[]⟩ = s at *
      have hlen : (bs ++ enc n ++ encI ((sbytes ss).take k)).length + s.size ≤ 35184372088832 := by
        rw [List.length_append, List.length_append, HL.out]; omega
      clear h1 hle
      go_wp2_with fail
      refine (putText_any w.heap.size u5 _ s _ hown (by omega) (by omega) hbel.size).mono ?_
      rintro e w3 ⟨v3, rfl, hown3, hb3⟩
      have hbel3 := hbel.trans hb3
      go_wp2_with fail
      go_roundw
      case rel =>
        refine ⟨k + 1, by omega, by go_num, ?_, hbel3⟩
        rw [HX.out, ← List.append_assoc]; exact hown3
      case measure => simp [intOf]; omega
    · have hk8 : k = n := by omega
      go_wp2_with fail
      go_ret
      refine ⟨u5, rfl, ?_, hbel⟩
      rw [HE.out, ← List.append_assoc]
      rw [hk8, List.take_of_length_le (Nat.le_of_eq HSN.out)] at hown
      exact hown
end Go.Proofs.Ytpbldkfoldjocaa
