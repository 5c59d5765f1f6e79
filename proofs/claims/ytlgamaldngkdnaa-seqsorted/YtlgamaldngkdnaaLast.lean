/- The last of each key: plainly. -/
import Derived.Test.YtlgamaldngkdnaaStable
namespace Go.Proofs.Ytlgamaldngkdnaa
open Go Go.RowKit

theorem key_ext {a b : ByteArray} (h : a.data.toList = b.data.toList) : a = b := by
  cases a; cases b
  simp only [ByteArray.mk.injEq]
  exact Array.ext' h
theorem key_total {a b : ByteArray} (h : lt a b = false) (k : lt b a = false) : a = b := by
  have := less_total _ _ h k
  rw [ByteArray.toList_eq, ByteArray.toList_eq] at this
  exact key_ext this
theorem ne_of_lt' {a b : ByteArray} (h : lt a b = true) : a ≠ b := fun e => by rw [e, lt_irrefl] at h; cases h
/-- A pair that is the last one of its key. -/
def IL (d : List Pr) (x : Pr) : Prop := ∃ i, i < d.length ∧ pr d i = x ∧ ∀ j, i < j → j < d.length → (pr d j).1 ≠ x.1
theorem pr_cons_zero (p : Pr) (d : List Pr) : pr (p :: d) 0 = p := rfl
theorem pr_cons_succ (p : Pr) (d : List Pr) (i : Nat) : pr (p :: d) (i + 1) = pr d i := rfl
theorem il_cons (p : Pr) (d : List Pr) (x : Pr) : IL (p :: d) x ↔ IL d x ∨ (p = x ∧ ∀ j, j < d.length → (pr d j).1 ≠ x.1) := by
  constructor
  · rintro ⟨i, hi, hp, hj⟩
    cases i with
    | zero => exact .inr ⟨hp, fun j h => hj (j + 1) (by omega) (by simpa using h)⟩
    | succ i => exact .inl ⟨i, by simpa using hi, hp, fun j h1 h2 => hj (j + 1) (by omega) (by simpa using h2)⟩
  · rintro (⟨i, hi, hp, hj⟩ | ⟨hp, hj⟩)
    · refine ⟨i + 1, by simpa using hi, hp, fun j h1 h2 => ?_⟩
      cases j with
      | zero => omega
      | succ j => exact hj j (by omega) (by simpa using h2)
    · refine ⟨0, by simp, hp, fun j h1 h2 => ?_⟩
      cases j with
      | zero => omega
      | succ j => exact hj j (by simpa using h2)
theorem filt_nil_iff (d : List Pr) (k : ByteArray) : filt k.data.toList d = [] ↔ ∀ j, j < d.length → (pr d j).1 ≠ k := by
  unfold filt
  rw [List.filter_eq_nil_iff]
  constructor
  · intro h j hj e
    have := h _ (List.getElem_mem hj)
    rw [← pr_get hj, e] at this
    simp at this
  · intro h p hp
    obtain ⟨j, hj, e⟩ := List.getElem_of_mem hp
    have := h j hj
    rw [pr_get hj, e] at this
    simp only [decide_eq_true_eq]
    exact fun h2 => this (key_ext h2)
theorem il_filt (d : List Pr) (x : Pr) : IL d x ↔ (filt x.1.data.toList d).getLast? = some x := by
  induction d with
  | nil => exact ⟨fun ⟨i, hi, _⟩ => by simp at hi, fun h => by simp [filt] at h⟩
  | cons p d ih =>
    rw [il_cons, ih, ← filt_nil_iff]
    by_cases hp : p.1.data.toList = x.1.data.toList
    · have e : filt x.1.data.toList (p :: d) = p :: filt x.1.data.toList d := by
        unfold filt
        rw [List.filter_cons_of_pos (by simpa using hp)]
      rw [e, List.getLast?_cons]
      cases hf : (filt x.1.data.toList d).getLast? with
      | none =>
        have := List.getLast?_eq_none_iff.1 hf
        simp [this]
      | some y =>
        have hne : filt x.1.data.toList d ≠ [] := fun h => by rw [h] at hf; cases hf
        simp [hne]
    · have e : filt x.1.data.toList (p :: d) = filt x.1.data.toList d := by
        unfold filt
        rw [List.filter_cons_of_neg (by simpa using hp)]
      rw [e]
      constructor
      · rintro (h | ⟨h, _⟩)
        · exact h
        · exact absurd (by rw [h]) hp
      · exact .inl
theorem il_sim {ds es : List Pr} (h : Sim ds es) (x : Pr) : IL es x ↔ IL ds x := by rw [il_filt, il_filt, h.2]
/-- What Sorted answers. -/
def Sp (d ys : List Pr) : Prop := Rise ys ∧ ∀ x, x ∈ ys ↔ IL d x
theorem Rise.head {p : Pr} {ys : List Pr} (h : Rise (p :: ys)) {x : Pr} (hx : x ∈ ys) : lt p.1 x.1 = true := by
  obtain ⟨j, hj, e⟩ := List.getElem_of_mem hx
  have := h 0 (j + 1) (by omega) (by simpa using hj)
  have e2 : ky (p :: ys) (j + 1) = x.1 := by
    rw [← e, ← pr_get hj]; rfl
  rw [e2] at this
  exact this
theorem Rise.tail {p : Pr} {ys : List Pr} (h : Rise (p :: ys)) : Rise ys := fun i j h1 h2 => h (i + 1) (j + 1) (by omega) (by simpa using h2)
theorem rise_unique : ∀ {xs ys : List Pr}, Rise xs → Rise ys → (∀ x, x ∈ xs ↔ x ∈ ys) → xs = ys
  | [], [], _, _, _ => rfl
  | [], y :: ys, _, _, h => absurd ((h y).2 List.mem_cons_self) (by simp)
  | x :: xs, [], _, _, h => absurd ((h x).1 List.mem_cons_self) (by simp)
  | x :: xs, y :: ys, hx, hy, h => by
    have hxy : x = y := by
      rcases List.mem_cons.1 ((h x).1 List.mem_cons_self) with e | e
      · exact e
      · rcases List.mem_cons.1 ((h y).2 List.mem_cons_self) with e2 | e2
        · exact e2.symm
        · have k1 := hy.head e
          have k2 := hx.head e2
          rw [lt_asymm k1] at k2
          cases k2
    subst hxy
    rw [rise_unique hx.tail hy.tail fun z => ?_]
    constructor
    · intro hz
      rcases List.mem_cons.1 ((h z).1 (List.mem_cons_of_mem _ hz)) with e | e
      · have := hx.head hz
        rw [e, lt_irrefl] at this
        cases this
      · exact e
    · intro hz
      rcases List.mem_cons.1 ((h z).2 (List.mem_cons_of_mem _ hz)) with e | e
      · have := hy.head hz
        rw [e, lt_irrefl] at this
        cases this
      · exact e
theorem Sp.unique {d xs ys : List Pr} (h : Sp d xs) (k : Sp d ys) : xs = ys := rise_unique h.1 k.1 fun x => (h.2 x).trans (k.2 x).symm
theorem Sp.sim {ds es ys : List Pr} (h : Sim ds es) (k : Sp es ys) : Sp ds ys := ⟨k.1, fun x => (k.2 x).trans (il_sim h x)⟩

/-- The least one so far of those beyond. -/
def MinI (xs : List Pr) (n : Nat) (s : ByteArray) (ii m : Nat) : Prop := m < ii ∧ ∀ j, j < ii → bey n s (ky xs j) = true → (j < m → lt (ky xs j) (ky xs m) = false) ∧ (m < j → lt (ky xs m) (ky xs j) = true)
theorem MinI.skip {xs : List Pr} {n : Nat} {s : ByteArray} {ii m : Nat} (h : MinI xs n s ii m) (hb : bey n s (ky xs ii) = false) : MinI xs n s (ii + 1) m := ⟨by have := h.1; omega, fun j hj hbj => by
  by_cases e : j = ii
  · rw [e, hb] at hbj; cases hbj
  · exact h.2 j (by omega) hbj⟩
theorem MinI.first {xs : List Pr} {n : Nat} {s : ByteArray} {ii : Nat} (h : ∀ j, j < ii → bey n s (ky xs j) = false) : MinI xs n s (ii + 1) ii := ⟨by omega, fun j hj hbj => by
  by_cases e : j = ii
  · exact ⟨fun h => by omega, fun h => by omega⟩
  · rw [h j (by omega)] at hbj; cases hbj⟩
theorem MinI.stay {xs : List Pr} {n : Nat} {s : ByteArray} {ii m : Nat} (h : MinI xs n s ii m) (hk : lt (ky xs m) (ky xs ii) = true) : MinI xs n s (ii + 1) m := ⟨by have := h.1; omega, fun j hj hbj => by
  have := h.1
  by_cases e : j = ii
  · rw [e]; exact ⟨fun h => by omega, fun _ => hk⟩
  · exact h.2 j (by omega) hbj⟩
theorem MinI.turn {xs : List Pr} {n : Nat} {s : ByteArray} {ii m : Nat} (h : MinI xs n s ii m) (hk : lt (ky xs m) (ky xs ii) = false) : MinI xs n s (ii + 1) ii := ⟨by omega, fun j hj hbj => by
  refine ⟨fun h1 => ?_, fun h => by omega⟩
  by_cases e : j = m
  · rw [e]; exact hk
  · have := h.2 j h1 hbj
    by_cases e2 : j < m
    · exact le_trans' hk (this.1 e2)
    · exact le_trans' hk (lt_asymm (this.2 (by omega)))⟩
/-- What was taken so far: the last of each key up to the one done. -/
def Tk (xs ys : List Pr) (s : ByteArray) : Prop := (∀ x, x ∈ ys → IL xs x) ∧ ∀ x, IL xs x → bey ys.length s x.1 = true ∨ x ∈ ys
theorem Tk.step {xs ys : List Pr} {s : ByteArray} {ii m : Nat} (h : Tk xs ys s) (hi : xs.length ≤ ii) (hm : m < xs.length) (hb : bey ys.length s (ky xs m) = true) (hM : MinI xs ys.length s ii m) : Tk xs (ys ++ [pr xs m]) (ky xs m) := by
  constructor
  · intro x hx
    rcases List.mem_append.1 hx with h1 | h1
    · exact h.1 x h1
    · obtain rfl := List.mem_singleton.1 h1
      refine ⟨m, hm, rfl, fun j h2 h3 e => ?_⟩
      have e' : ky xs j = ky xs m := e
      have := (hM.2 j (by omega) (by rw [e']; exact hb)).2 h2
      rw [e', lt_irrefl] at this
      cases this
  · rintro x ⟨i, hi1, rfl, hl⟩
    rcases h.2 _ ⟨i, hi1, rfl, hl⟩ with h1 | h1
    · have hk := hM.2 i (by omega) h1
      by_cases e1 : i = m
      · exact .inr (List.mem_append.2 (.inr (by rw [e1]; exact List.mem_singleton.2 rfl)))
      · refine .inl ?_
        have hlt : lt (ky xs m) (ky xs i) = true := by
          by_cases e2 : i < m
          · have h3 := hk.1 e2
            cases h4 : lt (ky xs m) (ky xs i) with
            | true => rfl
            | false => exact absurd (key_total h4 h3) (hl m e2 hm)
          · exact hk.2 (by omega)
        show (_ == 0 || lt (ky xs m) (ky xs i)) = true
        rw [hlt, Bool.or_true]
    · exact .inr (List.mem_append.2 (.inl h1))
theorem Tk.sp {xs ys : List Pr} {s : ByteArray} {ii : Nat} (h : Tk xs ys s) (hr : Rise ys) (hi : xs.length ≤ ii) (hn : ∀ j, j < ii → bey ys.length s (ky xs j) = false) : Sp xs ys := by
  refine ⟨hr, fun x => ⟨h.1 x, fun hx => ?_⟩⟩
  rcases h.2 x hx with h1 | h1
  · obtain ⟨i, hi1, rfl, _⟩ := hx
    have := hn i (by omega)
    rw [show (pr xs i).1 = ky xs i from rfl, this] at h1
    cases h1
  · exact h1
end Go.Proofs.Ytlgamaldngkdnaa
