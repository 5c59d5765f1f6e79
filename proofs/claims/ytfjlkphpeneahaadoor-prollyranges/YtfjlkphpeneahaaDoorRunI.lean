/- Runs whose rounds are handed what lies in blocks that the iterator lays while it runs: the contract, and the loop's law. -/
import Derived.Test.YtfjlkphpeneahaaDoorRuns
namespace Go.Proofs.YtfjlkphpeneahaaDoor
open Go Go.RowKit

/-- The contract of an iterator: K: what a round must keep; T: what the iterator itself may turn; R (in J, Jx): the blocks that the rounds laid themselves; all other new blocks are the iterator's; Enc: what a round is handed, and out of which blocks it may be read. -/
def IterR {α : Type} (P : Program) (gf : Nat) (lb : Array Value) (Enc : α → Array Value → World → (Nat → Prop) → Prop) (K T : Nat → Prop) (xs : List α) (Gs : World → Prop) (G : List α → World → Prop) : Prop :=
  ∀ (l : Nat) (J Jx : (Nat → Prop) → List α → World → Prop) (W : World) (n : Nat), (∀ k, K k → k < W.heap.size) → (∀ k, T k → k < W.heap.size) →
    (∀ R pre, (∀ k, R k → W.heap.size ≤ k) → Stab (fun k => T k ∨ (W.heap.size ≤ k ∧ ¬ R k)) (J R pre)) →
    (∀ R pre, (∀ k, R k → W.heap.size ≤ k) → Stab (fun k => T k ∨ (W.heap.size ≤ k ∧ ¬ R k)) (Jx R pre)) →
    (∀ R pre x args W1 m, W.heap.size ≤ W1.heap.size → (∀ k, R k → W.heap.size ≤ k ∧ k < W1.heap.size) → J R pre W1 → (pre ++ [x]) <+: xs → Enc x args W1 (fun k => W.heap.size ≤ k ∧ ¬ R k) → YieldAt Fence.wide m P l args W1 fun e W' =>
      (e = .returned (.bool true) ∧ J (grow R W1.heap.size W'.heap.size) (pre ++ [x]) W' ∧ Ch (fun k => ¬ K k ∧ (k < W.heap.size ∨ R k)) W1 W') ∨
      (e = .returned (.bool false) ∧ Jx (grow R W1.heap.size W'.heap.size) (pre ++ [x]) W' ∧ Ch (fun k => ¬ K k ∧ (k < W.heap.size ∨ R k)) W1 W')) →
    (∀ W', Ch T W W' → J (fun _ => False) [] W') →
    Gs W →
    CallsIn Fence.wide n P gf (#[.func (.yield l) #[] #[]] ++ lb) W fun e W' => (∃ v, e = .returned v) ∧
      ∃ R : Nat → Prop, (∀ k, R k → W.heap.size ≤ k ∧ k < W'.heap.size) ∧ W.heap.size ≤ W'.heap.size ∧ ((J R xs W' ∧ G xs W') ∨ (∃ pre, pre <+: xs ∧ Jx R pre W' ∧ G pre W'))

/-- How the body of a round may be left. -/
def rPostR {α : Type} (S : Nat → Prop) (I : (Nat → Prop) → List α → World → Prop) (Ix : Code → (Nat → Prop) → List α → World → Prop) (R : Nat → Prop) (xs : List α) (W0 W : World) : Exit → Act → World → Prop
  | .normal, _, W' => Ch S W W' ∧ I (grow R W0.heap.size W'.heap.size) xs W'
  | .ret, _, W' => Ch S W W' ∧ Ix .ret (grow R W0.heap.size W'.heap.size) xs W'
  | .exit id, _, W' => Ch S W W' ∧ Ix (.exit id) (grow R W0.heap.size W'.heap.size) xs W'
  | .goto t, _, W' => Ch S W W' ∧ Ix (.goto t) (grow R W0.heap.size W'.heap.size) xs W'
  | .panic _, _, _ => False
  | .outgrown, _, _ => False

/-- The loop over an iterator. -/
theorem wpIn_rangeR {α : Type} {n : Nat} {P : Program} {g : Operand} {ps : Array Tmp} {assign body : Code} {Q : Exit → Act → World → Prop} {a : Act} {w : World}
    {gf : Nat} {lb : Array Value} (hg : a.eval g = .func (.func gf) #[] lb) (eg : ∀ args w, (callFunc gf args).run P w = .ok (.enter gf args) w)
    {Enc : α → Array Value → World → (Nat → Prop) → Prop} {K T : Nat → Prop} {xs : List α} {Gs : World → Prop} {G : List α → World → Prop} (hit : IterR P gf lb Enc K T xs Gs G) (hps : ∀ x args V F, Enc x args V F → args.size = ps.size)
    (hEnc : ∀ x args F, Stab (fun k => ¬ F k) (fun V => Enc x args V F))
    (hK : ∀ k, K k → k < w.heap.size) (hT : ∀ k, T k → k < w.heap.size) (hGs : ∀ pre, Stab (fun k => ¬ K k) (G pre)) (hGss : Stab (fun k => ¬ K k) Gs) (hG : Gs w)
    (I : (Nat → Prop) → List α → World → Prop) (Ix : Code → (Nat → Prop) → List α → World → Prop)
    (hI : ∀ R pre, (∀ k, R k → w.heap.size ≤ k) → Stab (fun k => T k ∨ (w.heap.size ≤ k ∧ ¬ R k)) (I R pre)) (hIx : ∀ c R pre, (∀ k, R k → w.heap.size ≤ k) → Stab (fun k => T k ∨ (w.heap.size ≤ k ∧ ¬ R k)) (Ix c R pre))
    (h0 : ∀ W', Ch T w W' → I (fun _ => False) [] W') (a₁ : α → Array Value → World → Act) (w₁ : α → Array Value → World → World) (hw₁ : ∀ x args V, Below V.heap.size V (w₁ x args V))
    (hassign : ∀ (m l : Nat) (x : α) (args : Array Value) (W : World) (F : Nat → Prop) (Kk : Act → World → Prop), Enc x args W F → Kk (a₁ x args W) (w₁ x args W) →
      assign.wpIn (Fence.wide.inRound l) m P (Exit.then Kk (fun _ _ _ => False)) { tmps := (ps.zip args).foldl (fun t (p, v) => t.setIfInBounds p v) a.tmps, defers := [] } W)
    (hbody : ∀ (m l : Nat) (R : Nat → Prop) (pre : List α) (x : α) (args : Array Value) (W0 W : World), w.heap.size + 2 ≤ W0.heap.size → Ch (fun k => k = w.heap.size + 1) (w₁ x args W0) W → (∀ k, R k → w.heap.size + 2 ≤ k ∧ k < W0.heap.size) → I R pre W → (pre ++ [x]) <+: xs → Enc x args W (fun k => w.heap.size + 2 ≤ k ∧ ¬ R k) →
      body.wpIn (Fence.wide.inRound l) m P (rPostR (fun k => ¬ K k ∧ (k < w.heap.size ∨ R k)) I Ix R (pre ++ [x]) W0 W) (a₁ x args W0) W)
    (hdone : ∀ (D : Nat) (R : Nat → Prop) (W : World), w.heap.size = D → (∀ k, R k → w.heap.size + 2 ≤ k ∧ k < W.heap.size) → w.heap.size + 2 ≤ W.heap.size → I R xs W → G xs W → W.heap[D]? = some (.deferred (some [])) → Q .normal { a with defers := { target := .collected D, args := #[] } :: a.defers } W)
    (hstop : ∀ (D : Nat) (R : Nat → Prop) (c : Code) (pre : List α) (W : World), w.heap.size = D → (∀ k, R k → w.heap.size + 2 ≤ k ∧ k < W.heap.size) → w.heap.size + 2 ≤ W.heap.size → pre <+: xs → Ix c R pre W → G pre W → W.heap[D]? = some (.deferred (some [])) →
      c.wpIn Fence.wide n P Q { a with defers := { target := .collected D, args := #[] } :: a.defers } W) :
    (Code.rangeFunc g ps assign body).wpIn Fence.wide n P Q a w := by
  refine wpIn_rangeFunc ?_
  intro fn hfn
  obtain ⟨rec, hrec⟩ : ∃ rec : LoopState → Option Code → Loop, rec = fun st pe => { state := st, pending := pe, fn, tmps := a.tmps, params := ps, assign, body, defers := w.heap.size } := ⟨_, rfl⟩
  obtain ⟨W1, hW1⟩ : ∃ W1, (w.alloc (.deferred (some []))).alloc (.loop (rec .ready none)) = W1 := ⟨_, rfl⟩
  have hz1 : W1.heap.size = w.heap.size + 2 := by rw [← hW1]; simp
  have hL1 : W1.heap[w.heap.size + 1]? = some (.loop (rec .ready none)) := by
    rw [← hW1]; have := World.alloc_heap_new (w.alloc (.deferred (some []))) (.loop (rec .ready none)); rwa [World.size_alloc] at this
  have hK1 : W1.heap[w.heap.size]? = some (.deferred (some [])) := by
    rw [← hW1]; exact (Below.heap_alloc _ _ _ (by simp)).trans (World.alloc_heap_new w _)
  have hc1 : ∀ S : Nat → Prop, Ch S w W1 := fun S => by rw [← hW1]; exact (Ch.alloc S w _).tr (Ch.alloc S _ _)
  refine ⟨w.heap.size + 1, [{ target := .collected w.heap.size, args := #[] }], W1, { target := .fn (.func gf) lb, args := #[.func (.yield (w.heap.size + 1)) #[] #[]] }, W1, gf,
    #[.func (.yield (w.heap.size + 1)) #[] #[]] ++ lb, W1, ?_, ?_, ?_, ?_, (fun h => by cases h), ?_⟩
  · rw [← hW1, hrec]; exact run_enterLoop_outer _ _ _ _ _
  · simp only [resolve, hg]
    simp [go_sem]
  · intro f' _; exact trivial
  · simp [invoke, go_sem, eg]
  · have hGW : Gs W1 := hGss w W1 hG (hc1 _)
    refine (hit (w.heap.size + 1)
      (fun R pre W => I R pre W ∧ W.heap[w.heap.size + 1]? = some (.loop (rec .ready none)) ∧ W.heap[w.heap.size]? = some (.deferred (some [])))
      (fun R pre W => ∃ c, Ix c R pre W ∧ W.heap[w.heap.size + 1]? = some (.loop (rec .done (some c))) ∧ W.heap[w.heap.size]? = some (.deferred (some [])))
      W1 (n - 1) (fun k hk => by have := hK k hk; omega) (fun k hk => by have := hT k hk; omega) ?_ ?_ ?_ ?_ hGW).mono ?_
    · rintro R pre hR A B ⟨hi, hl, hd⟩ hc
      have hsz := (Array.getElem?_eq_some_iff.1 hl).1
      have hn : ∀ k, w.heap.size ≤ k → k < w.heap.size + 2 → ¬ (T k ∨ (W1.heap.size ≤ k ∧ ¬ R k)) := by
        rintro k h1 h2 (h | ⟨h, _⟩)
        · have := hT _ h; omega
        · omega
      refine ⟨hI R pre (fun k hk => by have := hR k hk; omega) A B hi (hc.mono fun j _ hj => ?_), (hc.block _ hsz (hn _ (by omega) (by omega))).trans hl, (hc.block _ (by omega) (hn _ (by omega) (by omega))).trans hd⟩
      rcases hj with h | ⟨h, h'⟩
      · exact .inl h
      · exact .inr ⟨by omega, h'⟩
    · rintro R pre hR A B ⟨c, hi, hl, hd⟩ hc
      have hsz := (Array.getElem?_eq_some_iff.1 hl).1
      have hn : ∀ k, w.heap.size ≤ k → k < w.heap.size + 2 → ¬ (T k ∨ (W1.heap.size ≤ k ∧ ¬ R k)) := by
        rintro k h1 h2 (h | ⟨h, _⟩)
        · have := hT _ h; omega
        · omega
      refine ⟨c, hIx c R pre (fun k hk => by have := hR k hk; omega) A B hi (hc.mono fun j _ hj => ?_), (hc.block _ hsz (hn _ (by omega) (by omega))).trans hl, (hc.block _ (by omega) (hn _ (by omega) (by omega))).trans hd⟩
      rcases hj with h | ⟨h, h'⟩
      · exact .inl h
      · exact .inr ⟨by omega, h'⟩
    · -- one round
      rintro R pre x args W m hMW hR ⟨hi, hl, hk⟩ hpre hE
      have hlt : w.heap.size + 1 < W.heap.size := (Array.getElem?_eq_some_iff.1 hl).1
      obtain ⟨Wa, hWa⟩ : ∃ Wa, w₁ x args W = Wa := ⟨_, rfl⟩
      have hwa : Below W.heap.size W Wa := hWa ▸ hw₁ x args W
      have hwz := hwa.size
      have hla := (hwa.block _ hlt).trans hl
      have hka := (hwa.block w.heap.size (by omega)).trans hk
      have hRn : ∀ k, w.heap.size ≤ k → k < w.heap.size + 2 → ¬ R k := fun k _ h2 h => by have := (hR k h).1; omega
      have hy := run_yield (P := P) (args := args) hl (by rw [hrec]; exact hps x args W _ hE)
      rw [hrec] at hy
      have hp2 : ∀ (V : World) (o : Obj), Ch (fun k => T k ∨ (w.heap.size ≤ k ∧ ¬ R k)) V (V.putObj (w.heap.size + 1) o) := fun V o => Ch.putObj _ _ _ fun _ => .inr ⟨by omega, hRn _ (by omega) (by omega)⟩
      rw [hz1] at hE
      have hE2 : Enc x args (Wa.putObj (w.heap.size + 1) (.loop { rec .ready none with state := .busy })) (fun k => w.heap.size + 2 ≤ k ∧ ¬ R k) := hEnc x args _ _ _ (hEnc x args _ _ _ hE (Ch.of_new hwa)) (Ch.putObj _ _ _ fun _ h => by omega)
      refine ⟨fn, _, assign, body, hy, roundIn_of_wpIn hfn (hassign m _ x args W _ _ hE ?_)⟩
      rw [hWa]
      refine ⟨_, run_beginRound hla (by rw [hrec]), ?_⟩
      have hl2 : (Wa.putObj (w.heap.size + 1) (.loop { rec .ready none with state := .busy })).heap[w.heap.size + 1]? = some (.loop { rec .ready none with state := .busy }) := World.putObj_heap_same (by omega)
      have hk2 : (Wa.putObj (w.heap.size + 1) (.loop { rec .ready none with state := .busy })).heap[w.heap.size]? = some (.deferred (some [])) := (World.putObj_heap_other (by omega)).trans hka
      have hp3 : ∀ (V : World) (o : Obj), Ch (fun k => ¬ K k ∧ (k < W1.heap.size ∨ R k)) V (V.putObj (w.heap.size + 1) o) := fun V o => Ch.putObj _ _ _ fun _ => ⟨fun h => by have := hK _ h; omega, .inl (by omega)⟩
      refine wpIn_mono (hbody m _ R pre x args W _ (by omega) (by rw [hWa]; exact Ch.putObj _ _ _ fun _ => rfl) (fun k hk => by have := hR k hk; omega) (hI R pre (fun k hk => by have := hR k hk; omega) _ _ hi ((Ch.of_new hwa).tr (hp2 _ _))) hpre hE2) ?_
      have fin : ∀ (jump : Option Code) (W3 : World), Ch (fun k => ¬ K k ∧ (k < w.heap.size ∨ R k)) (Wa.putObj (w.heap.size + 1) (.loop { rec .ready none with state := .busy })) W3 →
          (Instr.endRound (w.heap.size + 1) jump).run P W3 = .ok (.bool jump.isNone) (W3.putObj (w.heap.size + 1) (.loop (rec (if jump.isNone then .ready else .done) jump))) ∧
          (W3.putObj (w.heap.size + 1) (.loop (rec (if jump.isNone then .ready else .done) jump))).heap[w.heap.size + 1]? = some (.loop (rec (if jump.isNone then .ready else .done) jump)) ∧
          (W3.putObj (w.heap.size + 1) (.loop (rec (if jump.isNone then .ready else .done) jump))).heap[w.heap.size]? = some (.deferred (some [])) ∧
          Ch (fun k => ¬ K k ∧ (k < W1.heap.size ∨ R k)) W (W3.putObj (w.heap.size + 1) (.loop (rec (if jump.isNone then .ready else .done) jump))) := fun jump W3 hk3 => by
        have hno : ∀ k, w.heap.size ≤ k → k < w.heap.size + 2 → ¬ (¬ K k ∧ (k < w.heap.size ∨ R k)) := by
          rintro k h1 h2 ⟨_, h | h⟩
          · omega
          · exact hRn k h1 h2 h
        have hl3 := (hk3.block (w.heap.size + 1) (by simp; omega) (hno _ (by omega) (by omega))).trans hl2
        have hd3 := (hk3.block (w.heap.size) (by simp; omega) (hno _ (by omega) (by omega))).trans hk2
        have := run_endRound (P := P) jump hl3
        rw [hrec] at this ⊢
        refine ⟨this, World.putObj_heap_same (Array.getElem?_eq_some_iff.1 hl3).1, (World.putObj_heap_other (by omega)).trans hd3, ?_⟩
        rw [hrec] at hk3
        exact (((Ch.of_new hwa).tr (hp3 Wa _)).trans hk3 (fun j _ hj => ⟨hj.1, hj.2.imp (fun h => by omega) id⟩)).tr (hp3 W3 _)
      have hput : ∀ (W3 : World) (o : Obj), (W3.putObj (w.heap.size + 1) o).heap.size = W3.heap.size := fun W3 o => by simp
      have hp4 : ∀ (V W3 : World) (o : Obj), Ch (fun k => T k ∨ (w.heap.size ≤ k ∧ ¬ grow R W.heap.size W3.heap.size k)) V (V.putObj (w.heap.size + 1) o) := fun V W3 o => Ch.putObj _ _ _ fun _ => .inr ⟨by omega, fun h => by
        rcases h with h | ⟨h, _⟩
        · exact hRn _ (by omega) (by omega) h
        · omega⟩
      have hRg : ∀ (W3 : World) k, grow R W.heap.size W3.heap.size k → w.heap.size ≤ k := fun W3 k h => by
        rcases h with h | ⟨h, _⟩
        · have := (hR k h).1; omega
        · omega
      rintro e a3 W3 hp
      cases e with
      | normal =>
        obtain ⟨hk3, hi3⟩ := hp
        obtain ⟨hr, hl4, hk4, hch⟩ := fin none W3 hk3
        exact ⟨_, _, hr, .inl ⟨rfl, ⟨by rw [hput]; exact hI _ _ (hRg W3) _ _ hi3 (hp4 _ _ _), hl4, hk4⟩, hch⟩⟩
      | ret =>
        obtain ⟨hk3, hi3⟩ := hp
        obtain ⟨hr, hl4, hk4, hch⟩ := fin (some .ret) W3 hk3
        exact ⟨_, _, hr, .inr ⟨rfl, ⟨_, by rw [hput]; exact hIx _ _ _ (hRg W3) _ _ hi3 (hp4 _ _ _), hl4, hk4⟩, hch⟩⟩
      | exit id =>
        obtain ⟨hk3, hi3⟩ := hp
        obtain ⟨hr, hl4, hk4, hch⟩ := fin (some (.exit id)) W3 hk3
        exact ⟨_, _, hr, .inr ⟨rfl, ⟨_, by rw [hput]; exact hIx _ _ _ (hRg W3) _ _ hi3 (hp4 _ _ _), hl4, hk4⟩, hch⟩⟩
      | goto t =>
        obtain ⟨hk3, hi3⟩ := hp
        obtain ⟨hr, hl4, hk4, hch⟩ := fin (some (.goto t)) W3 hk3
        exact ⟨_, _, hr, .inr ⟨rfl, ⟨_, by rw [hput]; exact hIx _ _ _ (hRg W3) _ _ hi3 (hp4 _ _ _), hl4, hk4⟩, hch⟩⟩
      | panic ch => exact hp.elim
      | outgrown => exact hp.elim
    · intro W' hc
      refine ⟨h0 W' ((hc1 T).tr hc), (hc.block _ (by omega) (fun h => by have := hT _ h; omega)).trans hL1, (hc.block _ (by omega) (fun h => by have := hT _ h; omega)).trans hK1⟩
    · -- behind the iterator
      rintro e W2 ⟨⟨v, rfl⟩, R, hR, hW2, h⟩
      have hRn : ∀ k, w.heap.size ≤ k → k < w.heap.size + 2 → ¬ R k := fun k _ h2 h => by have := (hR k h).1; omega
      have hp2 : ∀ (V : World) (o : Obj), Ch (fun k => T k ∨ (w.heap.size ≤ k ∧ ¬ R k)) V (V.putObj (w.heap.size + 1) o) := fun V o => Ch.putObj _ _ _ fun _ => .inr ⟨by omega, hRn _ (by omega) (by omega)⟩
      rcases h with ⟨⟨hi, hl, hk⟩, hg2⟩ | ⟨pre, hpre, ⟨c, hi, hl, hk⟩, hg2⟩
      · refine ⟨none, _, by have := run_endLoop (P := P) hl (by rw [hrec]; simp); rw [hrec] at this; exact this, hdone _ R _ rfl (fun k hk => by have := hR k hk; simp; omega) (by simp; omega) ?_ ?_ ((World.putObj_heap_other (by omega)).trans hk)⟩
        · exact hI R xs (fun k hk => by have := hR k hk; omega) _ _ hi (hp2 _ _)
        · exact hGs xs _ _ hg2 (Ch.putObj _ _ _ fun _ h => by have := hK _ h; omega)
      · refine ⟨some c, _, by have := run_endLoop (P := P) hl (by rw [hrec]; simp); rw [hrec] at this; exact this, hstop _ R c pre _ rfl (fun k hk => by have := hR k hk; simp; omega) (by simp; omega) hpre ?_ ?_ ((World.putObj_heap_other (by omega)).trans hk)⟩
        · exact hIx c R pre (fun k hk => by have := hR k hk; omega) _ _ hi (hp2 _ _)
        · exact hGs pre _ _ hg2 (Ch.putObj _ _ _ fun _ h => by have := hK _ h; omega)
end Go.Proofs.YtfjlkphpeneahaaDoor
