/- symMerge in general: what it does, plainly. -/
import Derived.Test.YtlgamaldngkdnaaSymR
namespace Go.Proofs.Ytlgamaldngkdnaa
open Go Go.RowKit

theorem take_eq_of {xs ys : List Pr} (hl : ys.length = xs.length) {a : Nat} (h : ∀ k, k < a → pr ys k = pr xs k) : ys.take a = xs.take a := by
  refine pr_ext (by simp [hl]) fun k hk => ?_
  rw [List.length_take] at hk
  rw [pr_take _ _ _ (by omega), pr_take _ _ _ (by omega)]
  exact h k (by omega)
theorem drop_eq_of {xs ys : List Pr} (hl : ys.length = xs.length) {b : Nat} (h : ∀ k, b ≤ k → pr ys k = pr xs k) : ys.drop b = xs.drop b := by
  refine pr_ext (by simp [hl]) fun k hk => ?_
  rw [pr_drop, pr_drop]
  exact h _ (by omega)
/-- What stands in a part stood in it. -/
theorem done_mem {ds es : List Pr} {a b : Nat} (h : Done ds es a b) (hab : a ≤ b) (hb : b ≤ ds.length) {i : Nat} (h1 : a ≤ i) (h2 : i < b) : ∃ j, a ≤ j ∧ j < b ∧ pr es i = pr ds j := by
  have hle := h.len
  have e1 : es.take a = ds.take a := take_eq_of h.len fun k hk => h.out k (.inl hk)
  have e2 : es.drop b = ds.drop b := drop_eq_of h.len fun k hk => h.out k (.inr hk)
  obtain ⟨k, hk⟩ : ∃ k, (pr es i).1.data.toList = k := ⟨_, rfl⟩
  have e3 := h.filt k
  have n1 : (es.take b).drop b = [] := List.drop_eq_nil_of_le (by rw [List.length_take]; omega)
  have n2 : (ds.take b).drop b = [] := List.drop_eq_nil_of_le (by rw [List.length_take]; omega)
  have s1 := split3 es hab (Nat.le_refl b)
  have s2 := split3 ds hab (Nat.le_refl b)
  rw [n1, e1, e2, List.nil_append] at s1
  rw [n2, List.nil_append] at s2
  have e4 : filt k ((es.take b).drop a) = filt k ((ds.take b).drop a) := by
    have p1 : filt k es = filt k (ds.take a) ++ (filt k ((es.take b).drop a) ++ filt k (ds.drop b)) := by
      conv => lhs; rw [s1]
      unfold filt
      simp only [List.filter_append]
    have p2 : filt k ds = filt k (ds.take a) ++ (filt k ((ds.take b).drop a) ++ filt k (ds.drop b)) := by
      conv => lhs; rw [s2]
      unfold filt
      simp only [List.filter_append]
    rw [p1, p2] at e3
    exact List.append_cancel_right (List.append_cancel_left e3)
  have hm : pr es i ∈ (es.take b).drop a := by
    have hi : i - a < ((es.take b).drop a).length := by rw [List.length_drop, List.length_take]; omega
    have := List.getElem_mem hi
    rw [← pr_get hi, pr_drop, pr_take _ _ _ (by omega), show a + (i - a) = i by omega] at this
    exact this
  have hm2 : pr es i ∈ filt k ((es.take b).drop a) := List.mem_filter.2 ⟨hm, decide_eq_true hk⟩
  rw [e4] at hm2
  obtain ⟨j, j1, j2, _, e⟩ := mem_pr (List.mem_filter.1 hm2).1
  exact ⟨j, j1, j2, e.symm⟩
theorem done_id {ds : List Pr} {a b : Nat} (h : Srt (pr ds) a b) : Done ds ds a b := ⟨rfl, fun _ _ => rfl, h, fun _ => rfl⟩
theorem rotL_no (ds : List Pr) {s m e : Nat} (hsm : s ≤ m) (hme : m ≤ e) (he : e ≤ ds.length) (h : s = m ∨ e = m) : rotL ds s m e = ds := by
  refine pr_ext (rotL_length ds hsm hme he) fun k _ => ?_
  rw [pr_rotL ds hsm hme he]
  unfold R
  repeat' split
  all_goals first | (exfalso; omega) | rfl | (congr 1; omega)

/-- Where the two halves are cut. -/
structure Cut (ds : List Pr) (a s m e mid b : Nat) : Prop where
  s1 : Srt (pr ds) a m
  s2 : Srt (pr ds) m b
  sa : a ≤ s
  sm : s ≤ m
  me : m ≤ e
  eb : e ≤ b
  hb : b ≤ ds.length
  sum : s + e = mid + m
  low : s = a ∨ e = b ∨ lt (pr ds e).1 (pr ds (s - 1)).1 = false
  hi : s = m ∨ e = m ∨ lt (pr ds (e - 1)).1 (pr ds s).1 = true
theorem Cut.vu {ds : List Pr} {a s m e mid b : Nat} (h : Cut ds a s m e mid b) : ∀ i j, s ≤ i → i < m → m ≤ j → j < e → lt (pr ds j).1 (pr ds i).1 = true := by
  intro i j i1 i2 j1 j2
  have := h.sa
  have := h.eb
  rcases h.hi with k | k | k
  · omega
  · omega
  · have k1 : lt (pr ds j).1 (pr ds s).1 = true := by
      by_cases e1 : j = e - 1
      · rw [e1]; exact k
      · exact lt_of_le_lt (h.s2 j (e - 1) j1 (by omega) (by omega)) k
    by_cases e1 : i = s
    · rw [e1]; exact k1
    · exact lt_of_lt_le k1 (h.s1 s i (by omega) (by omega) i2)
theorem Cut.ab {ds : List Pr} {a s m e mid b : Nat} (h : Cut ds a s m e mid b) : ∀ i j, a ≤ i → i < s → e ≤ j → j < b → lt (pr ds j).1 (pr ds i).1 = false := by
  intro i j i1 i2 j1 j2
  have := h.sm
  have := h.me
  rcases h.low with k | k | k
  · omega
  · omega
  · have k1 : lt (pr ds j).1 (pr ds (s - 1)).1 = false := by
      by_cases e1 : j = e
      · rw [e1]; exact k
      · exact le_trans' k (h.s2 e j (by omega) (by omega) j2)
    by_cases e1 : i = s - 1
    · rw [e1]; exact k1
    · exact le_trans' (h.s1 i (s - 1) i1 (by omega) (by omega)) k1
theorem Cut.parts {ds : List Pr} {a s m e mid b : Nat} (h : Cut ds a s m e mid b) : Srt (pr (rotL ds s m e)) a s ∧ Srt (pr (rotL ds s m e)) s mid ∧ Srt (pr (rotL ds s m e)) mid e ∧ Srt (pr (rotL ds s m e)) e b ∧ ∀ i j, a ≤ i → i < mid → mid ≤ j → j < b → lt (pr (rotL ds s m e) j).1 (pr (rotL ds s m e) i).1 = false := by
  have a1 := h.sa
  have a2 := h.sm
  have a3 := h.me
  have a4 := h.eb
  have a5 := h.hb
  have a6 := h.sum
  have hp := fun k => pr_rotL ds a2 a3 (by omega) k
  refine ⟨fun p q h1 h2 h3 => ?_, fun p q h1 h2 h3 => ?_, fun p q h1 h2 h3 => ?_, fun p q h1 h2 h3 => ?_, fun p q h1 h2 h3 h4 => ?_⟩
  all_goals
    rw [hp, hp]
    unfold R
    repeat' split
    all_goals first
      | (exfalso; omega)
      | exact h.s1 _ _ (by omega) (by omega) (by omega)
      | exact h.s2 _ _ (by omega) (by omega) (by omega)
      | exact h.ab _ _ (by omega) (by omega) (by omega) (by omega)
      | exact lt_asymm (h.vu _ _ (by omega) (by omega) (by omega) (by omega))
theorem Cut.join {ds es fs : List Pr} {a s m e mid b : Nat} (h : Cut ds a s m e mid b) (d1 : Done (rotL ds s m e) es a mid) (d2 : Done es fs mid b) : Done ds fs a b := by
  have a1 := h.sa
  have a2 := h.sm
  have a3 := h.me
  have a4 := h.eb
  have a5 := h.hb
  have a6 := h.sum
  have hl := rotL_length ds a2 a3 (by omega)
  have hle := d1.len
  have hx := h.parts.2.2.2.2
  refine ⟨by rw [d2.len, d1.len, hl], fun k hk => ?_, fun p q h1 h2 h3 => ?_, fun k => ?_⟩
  · rw [d2.out k (by omega), d1.out k (by omega), pr_rotL ds a2 a3 (by omega)]
    unfold R
    repeat' split
    all_goals first | (exfalso; omega) | rfl | (congr 1; omega)
  · by_cases hq : q < mid
    · rw [d2.out q (.inl hq), d2.out p (.inl (by omega))]
      exact d1.srt p q h1 h2 hq
    · by_cases hp : mid ≤ p
      · exact d2.srt p q hp h2 h3
      · obtain ⟨j, j1, j2, e1⟩ := done_mem d2 (by omega) (by omega) (i := q) (by omega) h3
        obtain ⟨i, i1, i2, e2⟩ := done_mem d1 (by omega) (by omega) (i := p) h1 (by omega)
        rw [e1, d2.out p (by omega), e2, d1.out j (by omega)]
        exact hx i j i1 i2 j1 j2
  · rw [d2.filt, d1.filt]
    exact filt_rotL ds a2 a3 (fun i j i1 i2 j1 j2 => key_ne_of_lt (h.vu i j i1 i2 j1 j2)) k
theorem Cut.srt1 {ds : List Pr} {a s m e mid b : Nat} (h : Cut ds a s m e mid b) (hn : ¬ (a < s ∧ s < mid)) : Srt (pr (rotL ds s m e)) a mid := by
  have a1 := h.sa
  have a3 := h.me
  have a6 := h.sum
  obtain ⟨p1, p2, _⟩ := h.parts
  by_cases e1 : s = a
  · rw [e1] at p2 ⊢; exact p2
  · have e2 : mid = s := by omega
    rw [e2]; exact p1
theorem Cut.srt2 {ds es : List Pr} {a s m e mid b : Nat} (h : Cut ds a s m e mid b) (d1 : Done (rotL ds s m e) es a mid) : Srt (pr es) mid e ∧ Srt (pr es) e b ∧ (¬ (mid < e ∧ e < b) → Srt (pr es) mid b) := by
  have a2 := h.sm
  have a4 := h.eb
  have a6 := h.sum
  obtain ⟨_, _, p3, p4, _⟩ := h.parts
  have q3 : Srt (pr es) mid e := fun p q h1 h2 h3 => by rw [d1.out q (by omega), d1.out p (by omega)]; exact p3 p q h1 h2 h3
  have q4 : Srt (pr es) e b := fun p q h1 h2 h3 => by rw [d1.out q (by omega), d1.out p (by omega)]; exact p4 p q h1 h2 h3
  refine ⟨q3, q4, fun hn => ?_⟩
  by_cases e1 : e = mid
  · rw [← e1]; exact q4
  · have e2 : b = e := by omega
    rw [e2]; exact q3
end Go.Proofs.Ytlgamaldngkdnaa
