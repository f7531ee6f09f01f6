/- utf: rows of bytes and of numbers; the reference's Encode. -/
import Derived.Test.YtpnnebnjkinndaaDoorUc
import Derived.Test.YtpnnebnjkinndaaDoorStr
import Derived.Outline
namespace Go.Proofs.YtpnnebnjkinndaaDoor.UtfW
open Go.RowKit
theorem bytesTy : ElemTy Tryd.prog 22 5 (.int .u8 0) 1 := ⟨by kernel_rfl, info_parts (by kernel_rfl), rfl, by omega⟩
theorem intsTy : ElemTy Tryd.prog 28 3 (.int .i64 0) 8 := ⟨by kernel_rfl, info_parts (by kernel_rfl), rfl, by omega⟩
theorem underBytes : Tryd.prog.underlying 22 = some (.slice 5) := by kernel_rfl
theorem underInts : Tryd.prog.underlying 28 = some (.slice 3) := by kernel_rfl
theorem underU8 : Tryd.prog.underlying 5 = some (.int .u8) := by kernel_rfl
theorem underStr : Tryd.prog.underlying 9 = some .string := by kernel_rfl
/-- Numbers as cells. -/
def icells (l : List Nat) : List Value := l.map fun (n : Nat) => Value.int .i64 ((n : Nat) : Int)
theorem icells_len (l : List Nat) : (icells l).length = l.length := by simp [icells]
theorem icells_get (l : List Nat) (i : Nat) (h : i < l.length) : (icells l)[i]? = some (.int .i64 ((l.getD i 0 : Nat) : Int)) := by simp [icells, h]
theorem icells_app (a b : List Nat) : icells a ++ icells b = icells (a ++ b) := by simp [icells]
theorem icells_one (l : List Nat) : ∀ v ∈ icells l, v.oneCell' = true := by
  intro v hv; simp [icells] at hv; obtain ⟨x, _, rfl⟩ := hv; rfl
/-- Rows of the call's own. -/
def Ow (base : Nat) (w : World) (v : Value) (bs : List UInt8) : Prop := w.ownsRow base 5 1 v bs.length (bcells bs)
def OwI (base : Nat) (w : World) (v : Value) (l : List Nat) : Prop := w.ownsRow base 3 1 v l.length (icells l)
theorem Ow.nil (base : Nat) (w : World) : Ow base w (.slice none 0 0) [] := World.ownsRow_nil _ _ _ _
theorem OwI.nil (base : Nat) (w : World) : OwI base w (.slice none 0 0) [] := World.ownsRow_nil _ _ _ _
theorem Ow.slice {base : Nat} {w : World} {v : Value} {bs : List UInt8} (h : Ow base w v bs) : ∃ A c, v = .slice A bs.length c ∧ Sl w A (bcells bs) ∧ bs.length ≤ c ∧ c ≤ maxLen ∧ (∀ b o s, A = some ⟨b, o, s⟩ → base ≤ b) := by
  obtain ⟨A, c, h1, h2, h3, _, h5, h6⟩ := own_slice h
  exact ⟨A, c, h1, h2, h3, h5, h6⟩
theorem OwI.slice {base : Nat} {w : World} {v : Value} {l : List Nat} (h : OwI base w v l) : ∃ A c, v = .slice A l.length c ∧ Sl w A (icells l) ∧ l.length ≤ c ∧ c ≤ maxLen ∧ (∀ b o s, A = some ⟨b, o, s⟩ → base ≤ b) := by
  obtain ⟨A, c, h1, h2, h3, _, h5, h6⟩ := own_slice h
  exact ⟨A, c, h1, h2, h3, h5, h6⟩
theorem own_below {B : Nat} {e : TypeId} {k : Nat} {v : Value} {n : Nat} {xs : List Value} {w w' : World} (h : w.ownsRow B e k v n xs) (hb : Below w.heap.size w w') : w'.ownsRow B e k v n xs :=
  h.kept (row := none) ⟨hb.os, hb.tape, hb.output, hb.size, fun j hj _ => hb.block j hj⟩ (by cases hv : v.ownBlock <;> simp)
theorem Ow.below {B : Nat} {v : Value} {bs : List UInt8} {w w' : World} (h : Ow B w v bs) (hb : Below w.heap.size w w') : Ow B w' v bs := own_below h hb
theorem OwI.below {B : Nat} {v : Value} {l : List Nat} {w w' : World} (h : OwI B w v l) (hb : Below w.heap.size w w') : OwI B w' v l := own_below h hb
theorem own_lit (w : World) (base : Nat) (e : TypeId) (cs : List Value) (n : Nat) (hn : cs.length = n) (hb : base ≤ w.heap.size) (hm : n ≤ 1000) :
    (w.alloc (.cells cs.toArray e)).ownsRow base e 1 (.slice (some ⟨w.heap.size, 0, none⟩) n n) n cs := by
  have := World.ownsRow_lit (base := base) (e := e) (size := 1) w cs.toArray n hb (by simp only [maxLen]; omega) (by simpa using hn)
  simpa using this
/-- A byte's value in the walk's own words. -/
theorem by8_ub (n : Nat) (h : n < 256) : ub (by8 n) = (n : Int) := by unfold ub; rw [by8_nat n h]
theorem bcell_eq {x : Int} {n : Nat} (h : n < 256) (hx : x = (n : Int)) : Value.int .u8 x = bv (by8 n) := by unfold bv; rw [by8_ub n h, hx]
/-- A new row of bytes. -/
theorem new_bytes (w : World) (bs : List UInt8) (cs : List Value) (h : cs = bcells bs) : Sl (w.alloc (.cells cs.toArray 5)) (some ⟨w.heap.size, 0, none⟩) (bcells bs) := by
  subst h; exact Sl.of_at_all (At.new_ w _ 5 _ rfl)
theorem own_bytes (w : World) (base : Nat) (bs : List UInt8) (cs : List Value) (n : Nat) (h : cs = bcells bs) (hn : bs.length = n) (hb : base ≤ w.heap.size) (hm : n ≤ 1000) : (w.alloc (.cells cs.toArray 5)).ownsRow base 5 1 (.slice (some ⟨w.heap.size, 0, none⟩) n n) n (bcells bs) := by
  subst h; exact own_lit w base 5 (bcells bs) n (by rw [bcells_len, hn]) hb hm
set_option maxRecDepth 1000000 in
set_option maxHeartbeats 1000000 in
theorem refEncode (c : Nat) (w : World) (hc : c < 1114112) : Calls Tryd.prog 42 #[.int .i64 (c : Int)] w fun e w' => ∃ A, e = .returned (.slice A (encU c).length (encU c).length) ∧ Sl w' A (bcells (encU c)) ∧ Below w.heap.size w w' := by
  have h0 : ∀ o : Obj, Below w.heap.size w (w.alloc o) := fun o => (Below.refl _ _).alloc (Nat.le_refl _) o
  have H0 := Lib.hid h0
  clear h0
  rcases sizes c with h | ⟨h, h'⟩ | ⟨h, h'⟩ | h
  · have HE := Lib.hid (enc1 h)
    go_enter Tryd.func42, Tryd.ntmps42
    go_wp2_with fail
    go_ret
    rw [HE.out]
    refine ⟨_, rfl, ?_, H0.out _⟩
    refine new_bytes w _ [_] ?_
    unfold bcells
    simp only [List.map_cons, List.map_nil]
    refine List.cons_eq_cons.2 ⟨bcell_eq (by omega) (by omega), rfl⟩
  · have HE := Lib.hid (enc2 h h')
    go_enter Tryd.func42, Tryd.ntmps42
    go_wp2_with fail
    go_ret
    rw [HE.out]
    refine ⟨_, rfl, ?_, H0.out _⟩
    refine new_bytes w _ [_, _] ?_
    unfold bcells
    simp only [List.map_cons, List.map_nil]
    refine List.cons_eq_cons.2 ⟨bcell_eq (by omega) (by omega), List.cons_eq_cons.2 ⟨bcell_eq (by omega) (by omega), rfl⟩⟩
  · have HE := Lib.hid (enc3 h h')
    go_enter Tryd.func42, Tryd.ntmps42
    go_wp2_with fail
    go_ret
    rw [HE.out]
    refine ⟨_, rfl, ?_, H0.out _⟩
    refine new_bytes w _ [_, _, _] ?_
    unfold bcells
    simp only [List.map_cons, List.map_nil]
    refine List.cons_eq_cons.2 ⟨bcell_eq (by omega) (by omega), List.cons_eq_cons.2 ⟨bcell_eq (by omega) (by omega), List.cons_eq_cons.2 ⟨bcell_eq (by omega) (by omega), rfl⟩⟩⟩
  · have HE := Lib.hid (enc4 h)
    go_enter Tryd.func42, Tryd.ntmps42
    go_wp2_with fail
    go_ret
    rw [HE.out]
    refine ⟨_, rfl, ?_, H0.out _⟩
    refine new_bytes w _ [_, _, _, _] ?_
    unfold bcells
    simp only [List.map_cons, List.map_nil]
    refine List.cons_eq_cons.2 ⟨bcell_eq (by omega) (by omega), List.cons_eq_cons.2 ⟨bcell_eq (by omega) (by omega), List.cons_eq_cons.2 ⟨bcell_eq (by omega) (by omega), List.cons_eq_cons.2 ⟨bcell_eq (by omega) (by omega), rfl⟩⟩⟩⟩
end Go.Proofs.YtpnnebnjkinndaaDoor.UtfW
