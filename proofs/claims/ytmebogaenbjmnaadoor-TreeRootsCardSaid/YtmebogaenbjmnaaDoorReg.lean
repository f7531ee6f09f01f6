/- A region that draws its order, walked in ONE order: what reads old memory may be taken first in every world behind the one at hand. Nothing of the dump. -/
import Derived.Test.YtmebogaenbjmnaaDoorMem
import Derived.Deep.RegionHeld3
namespace Go.Proofs.YtmebogaenbjmnaaDoor
open Go.RowKit
section
variable {P : Program} {ops : Array Oper} {Q : Exit → Act → World → Prop} {md : Region.Mode}
/-- A world behind another one. -/
def Aft (w w' : World) : Prop := Below w.heap.size w w'
theorem wpAnyH_mono {S S' : World → Prop} (h : ∀ w, S' w → S w) : ∀ (fuel : Nat) (listed : Array Bool) (a : Act) (w : World), wpAnyH P md ops Q S' fuel listed a w → wpAnyH P md ops Q S fuel listed a w
  | 0, _, _, _, h0 => h0
  | fuel + 1, _, _, _, h0 => ⟨h0.1, fun i hi => wpOp_mono (fun a' w' h' => ⟨h w' h'.1, wpAnyH_mono h fuel _ a' w' h'.2⟩) (h0.2 i hi)⟩
theorem reg_begin {id : Nat} {a : Act} {w : World} (hm : P.follows .mixedOrders = true) (h : wpAnyH P .any ops Q (Aft w.drew) ops.size (Array.replicate ops.size false) a w.drew) : (Code.region id ops true).wp P Q a w :=
  wp_region_held_drew hm (show Aft w.drew w.drew from Below.refl _ _) fun _ => h
/-- Take number i first. -/
theorem reg_take {i : Nat} {d : Option Tmp} {oi : Oper} {v : Value} {fuel : Nat} {listed : Array Bool} {a : Act} {w : World} (hi : ops[i]? = some oi) (hd : oi.dst = d)
    (hs : Region.noSelect ops = true) (hf : Region.free md ops listed i = true) (hr : (Region.ready md ops listed).contains i = true)
    (hQ : ∀ c a w, Q (.panic c) (a.put d v) w → Q (.panic c) a w) (hw : Region.wanted oi (yielded ops a.tmps) = true) (hy : ∀ w', Below w.heap.size w w' → (execOp a.eval oi).run P w' = .ok (.value v) w')
    (h : wpAnyH P md ops Q (Aft w) fuel (listed.setIfInBounds i true) (a.put d v) w) : wpAnyH P md ops Q (Aft w) (fuel + 1) listed a w := by
  subst hd
  exact wpAnyH_take hi hs hf hr hQ (.inl ⟨hw, hy⟩) (Below.refl _ _) h
/-- Take number i first, whose guard says no. -/
theorem reg_skip {i : Nat} {d : Option Tmp} {oi : Oper} {fuel : Nat} {listed : Array Bool} {a : Act} {w : World} (hi : ops[i]? = some oi) (hd : oi.dst = d)
    (hs : Region.noSelect ops = true) (hf : Region.free md ops listed i = true) (hr : (Region.ready md ops listed).contains i = true)
    (hQ : ∀ c a w, Q (.panic c) (a.put d undef) w → Q (.panic c) a w) (hw : Region.wanted oi (yielded ops a.tmps) = false)
    (h : wpAnyH P md ops Q (Aft w) fuel (listed.setIfInBounds i true) (a.put d undef) w) : wpAnyH P md ops Q (Aft w) (fuel + 1) listed a w := by
  subst hd
  exact wpAnyH_take hi hs hf hr hQ (.inr ⟨hw, rfl⟩) (Below.refl _ _) h
/-- The one call that may come up now. -/
theorem reg_call {i : Nat} {o : Oper} {fuel : Nat} {listed : Array Bool} {a : Act} {w : World} (ho : ops[i]? = some o) (hr : Region.ready md ops listed = [i]) (hw : Region.wanted o (yielded ops a.tmps) = true)
    (h : ∀ K : Act → World → Prop, Hid (∀ a' w', Below w.heap.size w w' → wpAnyH P md ops Q (Aft w') fuel (listed.setIfInBounds i true) a' w' → K a' w') → Oper.wp P o a w K Q) : wpAnyH P md ops Q (Aft w) (fuel + 1) listed a w := by
  refine wpAnyH_ready hr (by simp) (AllReadyH.cons ho (fun K hK => ?_) AllReadyH.nil)
  rw [if_pos hw]
  exact h K fun a' w' hb hn => hK.out a' w' hb fun _ => wpAnyH_mono (fun w'' h'' => (show Below w.heap.size w w' from hb).trans (Below.mono h'' hb.size)) _ _ _ _ hn
end
/- The same where rows of the call's own (from block B on) may be written. -/
section
variable {P : Program} {ops : Array Oper} {Q : Exit → Act → World → Prop} {md : Region.Mode}
/-- A world behind another one, below B. -/
def AftB (B : Nat) (w w' : World) : Prop := Below B w w'
theorem regB_begin (B : Nat) {id : Nat} {a : Act} {w : World} (hm : P.follows .mixedOrders = true) (h : wpAnyH P .any ops Q (AftB B w.drew) ops.size (Array.replicate ops.size false) a w.drew) : (Code.region id ops true).wp P Q a w :=
  wp_region_held_drew hm (show AftB B w.drew w.drew from Below.refl _ _) fun _ => h
theorem regB_take {B i : Nat} {d : Option Tmp} {oi : Oper} {v : Value} {fuel : Nat} {listed : Array Bool} {a : Act} {w : World} (hi : ops[i]? = some oi) (hd : oi.dst = d)
    (hs : Region.noSelect ops = true) (hf : Region.free md ops listed i = true) (hr : (Region.ready md ops listed).contains i = true)
    (hQ : ∀ c a w, Q (.panic c) (a.put d v) w → Q (.panic c) a w) (hw : Region.wanted oi (yielded ops a.tmps) = true) (hy : ∀ w', Below B w w' → (execOp a.eval oi).run P w' = .ok (.value v) w')
    (h : wpAnyH P md ops Q (AftB B w) fuel (listed.setIfInBounds i true) (a.put d v) w) : wpAnyH P md ops Q (AftB B w) (fuel + 1) listed a w := by
  subst hd
  exact wpAnyH_take hi hs hf hr hQ (.inl ⟨hw, hy⟩) (Below.refl _ _) h
theorem regB_skip {B i : Nat} {d : Option Tmp} {oi : Oper} {fuel : Nat} {listed : Array Bool} {a : Act} {w : World} (hi : ops[i]? = some oi) (hd : oi.dst = d)
    (hs : Region.noSelect ops = true) (hf : Region.free md ops listed i = true) (hr : (Region.ready md ops listed).contains i = true)
    (hQ : ∀ c a w, Q (.panic c) (a.put d undef) w → Q (.panic c) a w) (hw : Region.wanted oi (yielded ops a.tmps) = false)
    (h : wpAnyH P md ops Q (AftB B w) fuel (listed.setIfInBounds i true) (a.put d undef) w) : wpAnyH P md ops Q (AftB B w) (fuel + 1) listed a w := by
  subst hd
  exact wpAnyH_take hi hs hf hr hQ (.inr ⟨hw, rfl⟩) (Below.refl _ _) h
theorem regB_next {B fuel : Nat} {listed : Array Bool} {a : Act} {w w' : World} (hb : Below B w w') (h : wpAnyH P md ops Q (AftB B w') fuel listed a w') : wpAnyH P md ops Q (AftB B w) fuel listed a w' :=
  wpAnyH_mono (fun _ h'' => (show Below B w w' from hb).trans h'') _ _ _ _ h
/-- The one operation that may come up now. -/
theorem regB_call {B i : Nat} {o : Oper} {fuel : Nat} {listed : Array Bool} {a : Act} {w : World} (ho : ops[i]? = some o) (hr : Region.ready md ops listed = [i]) (hw : Region.wanted o (yielded ops a.tmps) = true)
    (h : ∀ K : Act → World → Prop, Hid (∀ a' w', Below B w w' → wpAnyH P md ops Q (AftB B w') fuel (listed.setIfInBounds i true) a' w' → K a' w') → Oper.wp P o a w K Q) : wpAnyH P md ops Q (AftB B w) (fuel + 1) listed a w := by
  refine wpAnyH_ready hr (by simp) (AllReadyH.cons ho (fun K hK => ?_) AllReadyH.nil)
  rw [if_pos hw]
  exact h K fun a' w' hb hn => hK.out a' w' hb fun _ => regB_next hb hn
/-- One of the two that may come up now. -/
theorem regB_two {B i j : Nat} {o o' : Oper} {fuel : Nat} {listed : Array Bool} {a : Act} {w : World} (ho : ops[i]? = some o) (ho' : ops[j]? = some o') (hr : Region.ready md ops listed = [i, j])
    (hw : Region.wanted o (yielded ops a.tmps) = true) (hw' : Region.wanted o' (yielded ops a.tmps) = true)
    (h : ∀ K : Act → World → Prop, Hid (∀ a' w', Below B w w' → wpAnyH P md ops Q (AftB B w') fuel (listed.setIfInBounds i true) a' w' → K a' w') → Oper.wp P o a w K Q)
    (h' : ∀ K : Act → World → Prop, Hid (∀ a' w', Below B w w' → wpAnyH P md ops Q (AftB B w') fuel (listed.setIfInBounds j true) a' w' → K a' w') → Oper.wp P o' a w K Q) : wpAnyH P md ops Q (AftB B w) (fuel + 1) listed a w := by
  refine wpAnyH_ready hr (by simp) (AllReadyH.cons ho (fun K hK => ?_) (AllReadyH.cons ho' (fun K hK => ?_) AllReadyH.nil))
  · rw [if_pos hw]
    exact h K fun a' w' hb hn => hK.out a' w' hb fun _ => regB_next hb hn
  · rw [if_pos hw']
    exact h' K fun a' w' hb hn => hK.out a' w' hb fun _ => regB_next hb hn
/-- An operation that yields a value and leaves the world. -/
theorem oper_yields {o : Oper} {a : Act} {w : World} {K : Act → World → Prop} {v : Value} {d : Option Tmp} (hd : o.dst = d) (h : (execOp a.eval o).run P w = .ok (.value v) w) (hK : K (a.put d v) w) : Oper.wp P o a w K Q := by
  subst hd
  unfold Oper.wp
  rw [h]
  exact hK
/-- An append onto a row of the call's own. -/
theorem oper_app {o : Oper} {a : Act} {w : World} {K : Act → World → Prop} (d : Option Tmp) (hd : o.dst = d) (s x : Operand) (t : TypeId)
    (ho : o.op = .call { callee := .builtin .append, args := #[s, x], argTypes := #[t, t] }) {e : TypeId} {z : Value} {by_ : Nat} (E : ElemTy P t e z by_) (base : Nat) (v : Value) (n : Nat) (xs : List Value)
    (hs : a.eval s = v) (hown : w.ownsRow base e 1 v n xs) (A : Option Addr) (m c : Nat) (news : List Value) (hx : a.eval x = .slice A m c) (hl : news.length = m) (hsl : Sl w A news) (h1 : ∀ u ∈ news, u.oneCell' = true)
    (hb : (n + m) * by_ ≤ 140737488355328) (hbase : base ≤ w.heap.size)
    (h : ∀ v' w', w'.ownsRow base e 1 v' (n + m) (xs ++ news) → w.grownBy w' v.ownBlock → (v'.ownBlock = v.ownBlock ∨ v'.ownBlock = some w.heap.size) → K (a.put d v') w') : Oper.wp P o a w K Q := by
  subst hd
  exact wp_app s x t ho E base v n xs hs hown A m c news hx hl hsl h1 hb hbase h
end
end Go.Proofs.YtmebogaenbjmnaaDoor
