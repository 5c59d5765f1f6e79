/- The walk of walk: the nodes of level 0 below a node, told one by one. -/
import Derived.Test.YtfjlkphpeneahaaDoorTFind
import Derived.Test.YtfjlkphpeneahaaDoorRunI
namespace Go.Proofs.YtfjlkphpeneahaaDoor
open Go Go.RowKit Go.Shelf
attribute [local go_sem] Oper.semAt_some

/-- What is told below the items of a list, in turn, up to the first that isn't right. -/
def seqW (f : It → List (List It) × Bool) : List It → List (List It) × Bool
  | [] => ([], true)
  | x :: r => if (f x).2 = true then ((f x).1 ++ (seqW f r).1, (seqW f r).2) else ((f x).1, false)
/-- The nodes of level 0 that are told below a node, and whether all was right. -/
def walkG (l : Tx) (key : Bs) : Nat → List It → List (List It) × Bool
  | 0, m => ([m], true)
  | lev + 1, m => seqW (fun x => match belowP l (lev + 1) x with | some q => walkG l key lev q | none => ([], false)) (fromL key m)
/-- A heap at this block, whose map is m. -/
def HpM (h : Nat) (m : Option Nat) (l : Tx) (w : World) : Prop := w.heap[h]? = some (.cells #[.map m] 92 (0, 0)) ∧ Pile w m l ∧ ∀ b, m = some b → b ≠ h
def KH (h : Nat) (m : Option Nat) (k : Nat) : Prop := k = h ∨ m = some k
theorem HpM.stab (h : Nat) (m : Option Nat) (l : Tx) : Stab (fun k => ¬ KH h m k) (HpM h m l) := fun _ _ H hc =>
  ⟨(hc.block h (lt_of_heap H.1) (fun e => e (.inl rfl))).trans H.1, H.2.1.keep hc fun _ hb e => e (.inr hb), H.2.2⟩
theorem HpM.hp {h : Nat} {m : Option Nat} {l : Tx} {w : World} (H : HpM h m l w) : Hp w h 0 l := ⟨m, H.1, H.2.1, Nat.zero_le _, fun b hb => ⟨Nat.zero_le _, H.2.2 b hb⟩⟩
theorem HpM.lt {h : Nat} {m : Option Nat} {l : Tx} {w : World} (H : HpM h m l w) : ∀ k, KH h m k → k < w.heap.size := by
  rintro k (rfl | hk)
  · exact lt_of_heap H.1
  · exact H.2.1.lt hk
/-- What a round over nodes of level 0 is handed. -/
def EncL (x : List It) (args : Array Value) (V : World) (F : Nat → Prop) : Prop := ∃ a c, args = #[nodeV 0 a x.length c] ∧ RdP V a x ∧ x.length ≤ c ∧ x.length ≤ 16 ∧ (x ≠ [] → ∀ ad, a = some ad → F ad.block)
/-- What walk and its rounds go by. -/
structure WC (l : Nat) (J Jx : (Nat → Prop) → List (List It) → World → Prop) (W : World) (K : Nat → Prop) (xs : List (List It)) : Prop where
  kw : ∀ k, K k → k < W.heap.size
  j : ∀ R pre, (∀ k, R k → W.heap.size ≤ k) → Stab (fun k => W.heap.size ≤ k ∧ ¬ R k) (J R pre)
  jx : ∀ R pre, (∀ k, R k → W.heap.size ≤ k) → Stab (fun k => W.heap.size ≤ k ∧ ¬ R k) (Jx R pre)
  y : ∀ R pre x args W1 m, W.heap.size ≤ W1.heap.size → (∀ k, R k → W.heap.size ≤ k ∧ k < W1.heap.size) → J R pre W1 → (pre ++ [x]) <+: xs → EncL x args W1 (fun k => W.heap.size ≤ k ∧ ¬ R k) → YieldAt Fence.wide m Tryd.prog l args W1 fun e W' =>
      (e = .returned (.bool true) ∧ J (grow R W1.heap.size W'.heap.size) (pre ++ [x]) W' ∧ Ch (fun k => ¬ K k ∧ (k < W.heap.size ∨ R k)) W1 W') ∨
      (e = .returned (.bool false) ∧ Jx (grow R W1.heap.size W'.heap.size) (pre ++ [x]) W' ∧ Ch (fun k => ¬ K k ∧ (k < W.heap.size ∨ R k)) W1 W')
/-- How walk leaves. -/
def WalkPost (J Jx : (Nat → Prop) → List (List It) → World → Prop) (W : World) (K : Nat → Prop) (xs pre : List (List It)) (o : List (List It) × Bool) (R : Nat → Prop) (V : World) (e : Ending) (V' : World) : Prop :=
  ∃ R' : Nat → Prop, (∀ k, R' k → R k ∨ V.heap.size ≤ k) ∧ (∀ k, R' k → W.heap.size ≤ k ∧ k < V'.heap.size) ∧ Ch (fun k => ¬ K k ∧ (k < W.heap.size ∨ R k)) V V' ∧
    ((e = .returned (.bool o.2) ∧ J R' (pre ++ o.1) V') ∨ (e = .returned (.bool false) ∧ ∃ pre', pre' <+: xs ∧ Jx R' pre' V'))
end Go.Proofs.YtfjlkphpeneahaaDoor
