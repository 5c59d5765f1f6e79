/- Runs: what an iterator and the rounds of the loop over it promise one another, and the loop's law. -/
import Derived.RangeFuncNested
import Derived.RangeFuncBound
import Derived.RangeFuncCalls
import Derived.RangeFuncLeaves
import Derived.Shelf.Abstract
import Derived.Shelf.RegionOpen
import Derived.WalkKit
import Derived.OwnWalkIn
import Derived.TacticsInMore
import Derived.LoopNIn
import Derived.LoopIn
namespace Go.Proofs.Ytlgamaldngkdnaa
open Go Go.RowKit

/-- Beside new blocks only those of S have turned. -/
structure Ch (S : Nat → Prop) (A B : World) : Prop where
  os : B.os = A.os
  tape : B.tape = A.tape
  output : B.output = A.output
  size : A.heap.size ≤ B.heap.size
  block : ∀ k, k < A.heap.size → ¬ S k → B.heap[k]? = A.heap[k]?

section
variable {S S' : Nat → Prop} {A B C : World}
theorem Ch.refl (S : Nat → Prop) (A : World) : Ch S A A := ⟨rfl, rfl, rfl, Nat.le_refl _, fun _ _ _ => rfl⟩
theorem Ch.trans (h : Ch S A B) (k : Ch S' B C) (hs : ∀ j, j < A.heap.size → S' j → S j) : Ch S A C :=
  ⟨k.os.trans h.os, k.tape.trans h.tape, k.output.trans h.output, Nat.le_trans h.size k.size,
    fun i hi hn => (k.block i (Nat.lt_of_lt_of_le hi h.size) (fun h' => hn (hs i hi h'))).trans (h.block i hi hn)⟩
theorem Ch.tr (h : Ch S A B) (k : Ch S B C) : Ch S A C := h.trans k (fun _ _ h => h)
theorem Ch.mono (h : Ch S A B) (hs : ∀ j, j < A.heap.size → S j → S' j) : Ch S' A B :=
  ⟨h.os, h.tape, h.output, h.size, fun k hk hn => h.block k hk (fun h' => hn (hs k hk h'))⟩
theorem Ch.alloc (S : Nat → Prop) (A : World) (o : Obj) : Ch S A (A.alloc o) := ⟨rfl, rfl, rfl, by simp, fun _ hk _ => Below.heap_alloc _ _ _ hk⟩
theorem Ch.setCell (A : World) (p : Addr) (x : Value) (hp : p.block < A.heap.size → S p.block) : Ch S A (A.setCell p x) :=
  ⟨rfl, rfl, rfl, by simp [World.setCell], fun k hk hn => Below.heap_setCell _ _ _ _ (fun e => hn (e ▸ hp (e ▸ hk)))⟩
theorem Ch.drew (S : Nat → Prop) (A : World) : Ch S A A.drew := ⟨rfl, rfl, rfl, Nat.le_refl _, fun _ _ _ => rfl⟩
theorem Ch.drewN (S : Nat → Prop) (A : World) (n : Nat) : Ch S A (A.drewN n) := ⟨rfl, rfl, rfl, Nat.le_refl _, fun _ _ _ => rfl⟩
theorem Ch.putObj (A : World) (r : Nat) (o : Obj) (hr : r < A.heap.size → S r) : Ch S A (A.putObj r o) :=
  ⟨rfl, rfl, rfl, by simp, fun k hk hn => World.putObj_heap_other (fun e => hn (e ▸ hr (e ▸ hk)))⟩
theorem Ch.of_below {n : Nat} (h : Below n A B) : Ch (fun k => n ≤ k) A B := ⟨h.os, h.tape, h.output, h.size, fun k _ hn => h.block k (by omega)⟩
theorem Ch.below {n : Nat} (h : Ch S A B) (hn : n ≤ A.heap.size) (hs : ∀ k, k < n → ¬ S k) : Below n A B :=
  ⟨h.os, h.tape, h.output, h.size, fun k hk => h.block k (by omega) (hs k hk)⟩
theorem Ch.of_grown {row : Option Nat} (h : A.grownBy B row) (hr : ∀ k, row = some k → S k) : Ch S A B :=
  ⟨h.os, h.tape, h.output, h.size, fun k hk hn => h.block k hk (fun e => hn (hr k e.symm))⟩
theorem Ch.boxed (h : Ch S A B) {b : Nat} {t : TypeId} {v : Value} (hb : Boxed A b t v) (hn : ¬ S b) : Boxed B b t v := (h.block b hb.lt hn).trans hb
theorem Ch.cell (h : Ch S A B) {p : Addr} {v : Value} (hc : A.cell? p = some v) (hn : ¬ S p.block) : B.cell? p = some v :=
  (World.cell?_of_block (w := A) (h.block p.block (World.block_lt_of_cell? _ _ hc) hn)).trans hc
theorem Ch.frozen (h : Ch S A B) {p : Addr} {v : Value} (hc : A.cell? p = some v) (hf : A.frozen? p = false) (hn : ¬ S p.block) : B.frozen? p = false :=
  (World.frozen?_of_block (w := A) (h.block p.block (World.block_lt_of_cell? _ _ hc) hn)).trans hf
end

/-- p abides whatever turns blocks of S alone. -/
def Stab (S : Nat → Prop) (p : World → Prop) : Prop := ∀ A B, p A → Ch S A B → p B
theorem Stab.and {S : Nat → Prop} {p q : World → Prop} (h : Stab S p) (k : Stab S q) : Stab S (fun W => p W ∧ q W) := fun A B hA hc => ⟨h A B hA.1 hc, k A B hA.2 hc⟩
theorem Stab.mono {S S' : Nat → Prop} {p : World → Prop} (h : Stab S p) (hs : ∀ k, S' k → S k) : Stab S' p := fun A B hA hc => h A B hA (hc.mono fun j _ => hs j)

/-- The contract of an iterator: K: what a round must keep; T: what the iterator itself may turn, beside blocks that it laid ahead of its first round (from the start on, below M); Gs: how it stands ahead; G: how it stands when so much has come. -/
def Iter {α : Type} (P : Program) (gf : Nat) (lb : Array Value) (encs : α → Array Value) (K T : Nat → Prop) (xs : List α) (Gs : World → Prop) (G : List α → World → Prop) : Prop :=
  ∀ (l : Nat) (J Jx : Nat → List α → World → Prop) (W : World) (n : Nat), (∀ k, K k → k < W.heap.size) → (∀ k, T k → k < W.heap.size) →
    (∀ M pre, W.heap.size ≤ M → Stab (fun k => T k ∨ (W.heap.size ≤ k ∧ k < M)) (J M pre)) →
    (∀ M pre, W.heap.size ≤ M → Stab (fun k => T k ∨ (W.heap.size ≤ k ∧ k < M)) (Jx M pre)) →
    (∀ M pre x W1 m, W.heap.size ≤ M → M ≤ W1.heap.size → J M pre W1 → (pre ++ [x]) <+: xs → YieldAt Fence.wide m P l (encs x) W1 fun e W' =>
      (e = .returned (.bool true) ∧ J M (pre ++ [x]) W' ∧ Ch (fun k => ¬ K k ∧ ¬ (W.heap.size ≤ k ∧ k < M)) W1 W') ∨
      (e = .returned (.bool false) ∧ Jx M (pre ++ [x]) W' ∧ Ch (fun k => ¬ K k ∧ ¬ (W.heap.size ≤ k ∧ k < M)) W1 W')) →
    (∀ W', Ch T W W' → J W'.heap.size [] W') →
    Gs W →
    CallsIn Fence.wide n P gf (#[.func (.yield l) #[] #[]] ++ lb) W fun e W' => (∃ v, e = .returned v) ∧
      ∃ M, W.heap.size ≤ M ∧ M ≤ W'.heap.size ∧ ((J M xs W' ∧ G xs W') ∨ (∃ pre, pre <+: xs ∧ Jx M pre W' ∧ G pre W'))

/-- How the body of a round may be left. -/
def rPost {α : Type} (S : Nat → Prop) (I : List α → World → Prop) (Ix : Code → List α → World → Prop) (xs : List α) (W : World) : Exit → Act → World → Prop
  | .normal, _, W' => Ch S W W' ∧ I xs W'
  | .ret, _, W' => Ch S W W' ∧ Ix .ret xs W'
  | .exit id, _, W' => Ch S W W' ∧ Ix (.exit id) xs W'
  | .goto t, _, W' => Ch S W W' ∧ Ix (.goto t) xs W'
  | .panic _, _, _ => False
  | .outgrown, _, _ => False

/-- The loop over an iterator. -/
theorem wpIn_range {α : Type} {n : Nat} {P : Program} {g : Operand} {ps : Array Tmp} {assign body : Code} {Q : Exit → Act → World → Prop} {a : Act} {w : World}
    {gf : Nat} {lb : Array Value} (hg : a.eval g = .func (.func gf) #[] lb) (eg : ∀ args w, (callFunc gf args).run P w = .ok (.enter gf args) w)
    {encs : α → Array Value} {K T : Nat → Prop} {xs : List α} {Gs : World → Prop} {G : List α → World → Prop} (hit : Iter P gf lb encs K T xs Gs G) (hps : ∀ x, (encs x).size = ps.size)
    (hK : ∀ k, K k → k < w.heap.size) (hT : ∀ k, T k → k < w.heap.size) (hGs : ∀ pre, Stab (fun k => ¬ K k) (G pre)) (hGss : Stab (fun k => ¬ K k) Gs) (hG : Gs w)
    (I : Nat → List α → World → Prop) (Ix : Code → Nat → List α → World → Prop)
    (hI : ∀ M pre, w.heap.size ≤ M → Stab (fun k => T k ∨ (w.heap.size ≤ k ∧ k < M)) (I M pre)) (hIx : ∀ c M pre, w.heap.size ≤ M → Stab (fun k => T k ∨ (w.heap.size ≤ k ∧ k < M)) (Ix c M pre))
    (h0 : ∀ W', Ch T w W' → I W'.heap.size [] W') (a₁ : α → Act)
    (hassign : ∀ (m l : Nat) (x : α) (W : World) (Kk : Act → World → Prop), Kk (a₁ x) W →
      assign.wpIn (Fence.wide.inRound l) m P (Exit.then Kk (fun _ _ _ => False)) { tmps := (ps.zip (encs x)).foldl (fun t (p, v) => t.setIfInBounds p v) a.tmps, defers := [] } W)
    (hbody : ∀ (m l M : Nat) (pre : List α) (x : α) (W : World), w.heap.size ≤ M → M ≤ W.heap.size → I M pre W → (pre ++ [x]) <+: xs →
      body.wpIn (Fence.wide.inRound l) m P (rPost (fun k => ¬ K k ∧ ¬ (w.heap.size ≤ k ∧ k < M)) (I M) (fun c => Ix c M) (pre ++ [x]) W) (a₁ x) W)
    (hdone : ∀ (D M : Nat) (W : World), w.heap.size ≤ D → D < M → M ≤ W.heap.size → I M xs W → G xs W → W.heap[D]? = some (.deferred (some [])) → Q .normal { a with defers := { target := .collected D, args := #[] } :: a.defers } W)
    (hstop : ∀ (D M : Nat) (c : Code) (pre : List α) (W : World), w.heap.size ≤ D → D < M → M ≤ W.heap.size → pre <+: xs → Ix c M pre W → G pre W → W.heap[D]? = some (.deferred (some [])) →
      c.wpIn Fence.wide n P Q { a with defers := { target := .collected D, args := #[] } :: a.defers } W) :
    (Code.rangeFunc g ps assign body).wpIn Fence.wide n P Q a w := by
  refine wpIn_rangeFunc ?_
  intro fn hfn
  obtain ⟨rec, hrec⟩ : ∃ rec : LoopState → Option Code → Loop, rec = fun st pe => { state := st, pending := pe, fn, tmps := a.tmps, params := ps, assign, body, defers := w.heap.size } := ⟨_, rfl⟩
  obtain ⟨W1, hW1⟩ : ∃ W1, (w.alloc (.deferred (some []))).alloc (.loop (rec .ready none)) = W1 := ⟨_, rfl⟩
  have hz1 : W1.heap.size = w.heap.size + 2 := by rw [← hW1]; simp
  have hL1 : W1.heap[w.heap.size + 1]? = some (.loop (rec .ready none)) := by
    rw [← hW1]; have := World.alloc_heap_new (w.alloc (.deferred (some []))) (.loop (rec .ready none)); rwa [World.size_alloc] at this
  have hK1 : W1.heap[w.heap.size]? = some (.deferred (some [])) := by
    rw [← hW1]; exact (Below.heap_alloc _ _ _ (by simp)).trans (World.alloc_heap_new w _)
  have hc1 : ∀ S : Nat → Prop, Ch S w W1 := fun S => by rw [← hW1]; exact (Ch.alloc S w _).tr (Ch.alloc S _ _)
  refine ⟨w.heap.size + 1, [{ target := .collected w.heap.size, args := #[] }], W1, { target := .fn (.func gf) lb, args := #[.func (.yield (w.heap.size + 1)) #[] #[]] }, W1, gf,
    #[.func (.yield (w.heap.size + 1)) #[] #[]] ++ lb, W1, ?_, ?_, ?_, ?_, (fun h => by cases h), ?_⟩
  · rw [← hW1, hrec]; exact run_enterLoop_outer _ _ _ _ _
  · simp only [resolve, hg]
    simp [go_sem]
  · intro f' _; exact trivial
  · simp [invoke, go_sem, eg]
  · have hGW : Gs W1 := hGss w W1 hG (hc1 _)
    refine (hit (w.heap.size + 1)
      (fun M pre W => (I M pre W ∧ w.heap.size + 2 ≤ M) ∧ W.heap[w.heap.size + 1]? = some (.loop (rec .ready none)) ∧ W.heap[w.heap.size]? = some (.deferred (some [])))
      (fun M pre W => ∃ c, (Ix c M pre W ∧ w.heap.size + 2 ≤ M) ∧ W.heap[w.heap.size + 1]? = some (.loop (rec .done (some c))) ∧ W.heap[w.heap.size]? = some (.deferred (some [])))
      W1 (n - 1) (fun k hk => by have := hK k hk; omega) (fun k hk => by have := hT k hk; omega) ?_ ?_ ?_ ?_ hGW).mono ?_
    · rintro M pre hM A B ⟨⟨hi, hz⟩, hl, hd⟩ hc
      have hsz := (Array.getElem?_eq_some_iff.1 hl).1
      refine ⟨⟨hI M pre (by omega) A B hi (hc.mono fun j _ hj => ?_), hz⟩, (hc.block _ hsz ?_).trans hl, (hc.block _ (by omega) ?_).trans hd⟩
      · rcases hj with h | ⟨h, h'⟩
        · exact .inl h
        · exact .inr ⟨by omega, h'⟩
      · rintro (h | ⟨h, _⟩)
        · have := hT _ h; omega
        · omega
      · rintro (h | ⟨h, _⟩)
        · have := hT _ h; omega
        · omega
    · rintro M pre hM A B ⟨c, ⟨hi, hz⟩, hl, hd⟩ hc
      have hsz := (Array.getElem?_eq_some_iff.1 hl).1
      refine ⟨c, ⟨hIx c M pre (by omega) A B hi (hc.mono fun j _ hj => ?_), hz⟩, (hc.block _ hsz ?_).trans hl, (hc.block _ (by omega) ?_).trans hd⟩
      · rcases hj with h | ⟨h, h'⟩
        · exact .inl h
        · exact .inr ⟨by omega, h'⟩
      · rintro (h | ⟨h, _⟩)
        · have := hT _ h; omega
        · omega
      · rintro (h | ⟨h, _⟩)
        · have := hT _ h; omega
        · omega
    · -- one round
      rintro M pre x W m hM hMW ⟨⟨hi, hz⟩, hl, hk⟩ hpre
      have hlt : w.heap.size + 1 < W.heap.size := (Array.getElem?_eq_some_iff.1 hl).1
      have hy := run_yield (P := P) (args := encs x) hl (by rw [hrec]; exact hps x)
      rw [hrec] at hy
      refine ⟨fn, _, assign, body, hy, roundIn_of_wpIn hfn (hassign m _ x W _ ⟨_, run_beginRound hl (by rw [hrec]), ?_⟩)⟩
      have hl2 : (W.putObj (w.heap.size + 1) (.loop { rec .ready none with state := .busy })).heap[w.heap.size + 1]? = some (.loop { rec .ready none with state := .busy }) := World.putObj_heap_same hlt
      have hk2 : (W.putObj (w.heap.size + 1) (.loop { rec .ready none with state := .busy })).heap[w.heap.size]? = some (.deferred (some [])) := (World.putObj_heap_other (by omega)).trans hk
      have hp2 : ∀ (V : World) (o : Obj), Ch (fun k => T k ∨ (w.heap.size ≤ k ∧ k < M)) V (V.putObj (w.heap.size + 1) o) := fun V o => Ch.putObj _ _ _ fun _ => .inr ⟨by omega, by omega⟩
      have hp3 : ∀ (V : World) (o : Obj), Ch (fun k => ¬ K k ∧ ¬ (W1.heap.size ≤ k ∧ k < M)) V (V.putObj (w.heap.size + 1) o) := fun V o => Ch.putObj _ _ _ fun _ => ⟨fun h => by have := hK _ h; omega, fun h => by omega⟩
      refine wpIn_mono (hbody m _ M pre x _ (by omega) (by simpa using hMW) (hI M pre (by omega) _ _ hi (hp2 _ _)) hpre) ?_
      have fin : ∀ (jump : Option Code) (W3 : World), Ch (fun k => ¬ K k ∧ ¬ (w.heap.size ≤ k ∧ k < M)) (W.putObj (w.heap.size + 1) (.loop { rec .ready none with state := .busy })) W3 →
          (Instr.endRound (w.heap.size + 1) jump).run P W3 = .ok (.bool jump.isNone) (W3.putObj (w.heap.size + 1) (.loop (rec (if jump.isNone then .ready else .done) jump))) ∧
          (W3.putObj (w.heap.size + 1) (.loop (rec (if jump.isNone then .ready else .done) jump))).heap[w.heap.size + 1]? = some (.loop (rec (if jump.isNone then .ready else .done) jump)) ∧
          (W3.putObj (w.heap.size + 1) (.loop (rec (if jump.isNone then .ready else .done) jump))).heap[w.heap.size]? = some (.deferred (some [])) ∧
          Ch (fun k => ¬ K k ∧ ¬ (W1.heap.size ≤ k ∧ k < M)) W (W3.putObj (w.heap.size + 1) (.loop (rec (if jump.isNone then .ready else .done) jump))) := fun jump W3 hk3 => by
        have hl3 := (hk3.block (w.heap.size + 1) (by simpa using hlt) (fun h => h.2 ⟨by omega, by omega⟩)).trans hl2
        have hd3 := (hk3.block (w.heap.size) (by simp; omega) (fun h => h.2 ⟨by omega, by omega⟩)).trans hk2
        have := run_endRound (P := P) jump hl3
        rw [hrec] at this ⊢
        refine ⟨this, World.putObj_heap_same (Array.getElem?_eq_some_iff.1 hl3).1, (World.putObj_heap_other (by omega)).trans hd3, ?_⟩
        rw [hrec] at hk3
        exact ((hp3 W _).trans hk3 (fun j _ hj => ⟨hj.1, fun h => hj.2 ⟨by omega, h.2⟩⟩)).tr (hp3 W3 _)
      rintro e a3 W3 hp
      cases e with
      | normal =>
        obtain ⟨hk3, hi3⟩ := hp
        obtain ⟨hr, hl4, hk4, hch⟩ := fin none W3 hk3
        exact ⟨_, _, hr, .inl ⟨rfl, ⟨⟨hI M _ (by omega) _ _ hi3 (hp2 _ _), hz⟩, hl4, hk4⟩, hch⟩⟩
      | ret =>
        obtain ⟨hk3, hi3⟩ := hp
        obtain ⟨hr, hl4, hk4, hch⟩ := fin (some .ret) W3 hk3
        exact ⟨_, _, hr, .inr ⟨rfl, ⟨_, ⟨hIx _ M _ (by omega) _ _ hi3 (hp2 _ _), hz⟩, hl4, hk4⟩, hch⟩⟩
      | exit id =>
        obtain ⟨hk3, hi3⟩ := hp
        obtain ⟨hr, hl4, hk4, hch⟩ := fin (some (.exit id)) W3 hk3
        exact ⟨_, _, hr, .inr ⟨rfl, ⟨_, ⟨hIx _ M _ (by omega) _ _ hi3 (hp2 _ _), hz⟩, hl4, hk4⟩, hch⟩⟩
      | goto t =>
        obtain ⟨hk3, hi3⟩ := hp
        obtain ⟨hr, hl4, hk4, hch⟩ := fin (some (.goto t)) W3 hk3
        exact ⟨_, _, hr, .inr ⟨rfl, ⟨_, ⟨hIx _ M _ (by omega) _ _ hi3 (hp2 _ _), hz⟩, hl4, hk4⟩, hch⟩⟩
      | panic ch => exact hp.elim
      | outgrown => exact hp.elim
    · intro W' hc
      refine ⟨⟨h0 W' ((hc1 T).tr hc), by have := hc.size; omega⟩, (hc.block _ (by omega) (fun h => by have := hT _ h; omega)).trans hL1, (hc.block _ (by omega) (fun h => by have := hT _ h; omega)).trans hK1⟩
    · -- behind the iterator
      rintro e W2 ⟨⟨v, rfl⟩, M, hM, hMW, (⟨⟨⟨hi, hz⟩, hl, hk⟩, hg2⟩ | ⟨pre, hpre, ⟨c, ⟨hi, hz⟩, hl, hk⟩, hg2⟩)⟩
      · refine ⟨none, _, by have := run_endLoop (P := P) hl (by rw [hrec]; simp); rw [hrec] at this; exact this, hdone _ M _ (Nat.le_refl _) (by omega) (by simpa using hMW) ?_ ?_ ((World.putObj_heap_other (by omega)).trans hk)⟩
        · exact hI M xs (by omega) _ _ hi (Ch.putObj _ _ _ fun _ => .inr ⟨by omega, by omega⟩)
        · exact hGs xs _ _ hg2 (Ch.putObj _ _ _ fun _ h => by have := hK _ h; omega)
      · refine ⟨some c, _, by have := run_endLoop (P := P) hl (by rw [hrec]; simp); rw [hrec] at this; exact this, hstop _ M c pre _ (Nat.le_refl _) (by omega) (by simpa using hMW) hpre ?_ ?_ ((World.putObj_heap_other (by omega)).trans hk)⟩
        · exact hIx c M pre (by omega) _ _ hi (Ch.putObj _ _ _ fun _ => .inr ⟨by omega, by omega⟩)
        · exact hGs pre _ _ hg2 (Ch.putObj _ _ _ fun _ h => by have := hK _ h; omega)

end Go.Proofs.Ytlgamaldngkdnaa
