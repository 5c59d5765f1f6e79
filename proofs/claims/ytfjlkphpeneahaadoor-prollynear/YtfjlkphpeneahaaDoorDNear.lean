/- A map and the same with a pair more: which nodes of level 0 both have, plainly. -/
import Derived.Test.YtfjlkphpeneahaaDoorM10
namespace Go.Proofs.YtfjlkphpeneahaaDoor
open Go Go.RowKit

/-- The parts that end within a list, behind n items of the open part, and how many items are open then. -/
def closedG (E : List UInt8 → Bool) : Nat → List (List UInt8) → List Nat × Nat
  | n, [] => ([], n)
  | n, x :: xs => if 16 ≤ n + 1 ∨ (2 ≤ n + 1 ∧ E x = true) then ((n + 1) :: (closedG E 0 xs).1, (closedG E 0 xs).2) else closedG E (n + 1) xs
theorem cutG_app (E : List UInt8 → Bool) (ys : List (List UInt8)) : ∀ (xs : List (List UInt8)) (n : Nat), cutG E n (xs ++ ys) = (closedG E n xs).1 ++ cutG E (closedG E n xs).2 ys
  | [], _ => rfl
  | x :: xs, n => by
    rw [List.cons_append, cutG_cons]
    unfold closedG
    split
    · rw [cutG_app E ys xs 0]; rfl
    · exact cutG_app E ys xs (n + 1)
theorem closed_sum (E : List UInt8 → Bool) : ∀ (xs : List (List UInt8)) (n : Nat), (closedG E n xs).1.sum + (closedG E n xs).2 = n + xs.length
  | [], n => by unfold closedG; simp
  | x :: xs, n => by
    unfold closedG
    split
    · have := closed_sum E xs 0
      simp only [List.sum_cons, List.length_cons]; omega
    · have := closed_sum E xs (n + 1)
      rw [List.length_cons]; omega
theorem cut_first (E : List UInt8 → Bool) (x : List UInt8) (xs : List (List UInt8)) (n : Nat) : ∃ p l, cutG E n (x :: xs) = p :: l ∧ n + 1 ≤ p := by
  rw [cutG_cons]
  split
  · exact ⟨n + 1, _, rfl, Nat.le_refl _⟩
  · obtain ⟨p, l, e, h1, _⟩ := cutG_rest E xs (n + 1) (cutG_pos E xs (n + 1) (by omega))
    exact ⟨p, l, e, h1⟩
theorem partsL_app {α : Type} : ∀ (ps qs : List Nat) (l : List α), partsL (ps ++ qs) l = partsL ps l ++ partsL qs (l.drop ps.sum)
  | [], _, _ => by simp [partsL]
  | p :: ps, qs, l => by
    show l.take p :: partsL (ps ++ qs) (l.drop p) = l.take p :: (partsL ps (l.drop p) ++ _)
    rw [partsL_app ps qs (l.drop p), List.drop_drop, List.sum_cons]
theorem partsL_low {α : Type} : ∀ (ps : List Nat) (l m : List α), ps.sum ≤ l.length → partsL ps (l ++ m) = partsL ps l
  | [], _, _, _ => rfl
  | p :: ps, l, m, h => by
    rw [List.sum_cons] at h
    show (l ++ m).take p :: partsL ps ((l ++ m).drop p) = l.take p :: partsL ps (l.drop p)
    rw [List.take_append_of_le_length (by omega), List.drop_append_of_le_length (by omega), partsL_low ps (l.drop p) m (by rw [List.length_drop]; omega)]
theorem partsL_in {α : Type} : ∀ (ps : List Nat) (l : List α), ∀ q ∈ partsL ps l, ∀ x ∈ q, x ∈ l
  | [], _, q, h, _, _ => by cases h
  | p :: ps, l, q, h, x, hx => by
    rcases List.mem_cons.1 h with rfl | h
    · exact List.mem_of_mem_take hx
    · exact List.mem_of_mem_drop (partsL_in ps (l.drop p) q h x hx)
/-- The parts of two lists that begin alike. -/
theorem parts_app (a b : List It) : ∃ (C : List Nat) (r : Nat), C.sum + r = a.length ∧ partsOf (a ++ b) = partsL C a ++ partsL (cutG E r (b.map itemL)) (a.drop C.sum ++ b) ∧ C = (closedG E 0 (a.map itemL)).1 ∧ r = (closedG E 0 (a.map itemL)).2 := by
  refine ⟨_, _, ?_, ?_, rfl, rfl⟩
  · have := closed_sum E (a.map itemL) 0
    rw [List.length_map] at this; omega
  · have hs := closed_sum E (a.map itemL) 0
    rw [List.length_map] at hs
    unfold partsOf
    rw [List.map_append, cutG_app, partsL_app, partsL_low _ _ _ (by omega), List.drop_append_of_le_length (by omega)]
/-- Behind what a list's parts end with, no part ends within the list. -/
theorem open_last (C : List Nat) (r : Nat) (a b : List It) (hs : C.sum + r = a.length) (hb : b ≠ []) : ∀ q ∈ partsL (cutG E r (b.map itemL)) (a.drop C.sum ++ b), q ≠ [] → itD q (q.length - 1) ∈ b := by
  cases b with
  | nil => exact absurd rfl hb
  | cons y b =>
    obtain ⟨p, l, e, hp⟩ := cut_first E (itemL y) (b.map itemL) r
    rw [List.map_cons, e]
    have hd : (a.drop C.sum).length = r := by rw [List.length_drop]; omega
    generalize a.drop C.sum = d at *
    intro q hq hne
    have hlp := List.length_pos_iff.2 hne
    rcases List.mem_cons.1 hq with rfl | hq
    · have ht : (d ++ y :: b).take p = d ++ (y :: b).take (p - r) := by
        rw [List.take_append, hd, List.take_of_length_le (by omega)]
      rw [ht] at hlp ⊢
      have hl2 : 1 ≤ ((y :: b).take (p - r)).length := by rw [List.length_take, List.length_cons]; omega
      rw [itD_at (by omega)]
      rw [List.getElem_append_right (by rw [List.length_append]; omega)]
      exact List.mem_of_mem_take (List.getElem_mem _)
    · have h2 := partsL_in l _ q hq _ (itD_mem (l := q) (i := q.length - 1) (by omega))
      have h3 : (d ++ y :: b).drop p = (y :: b).drop (p - r) := by
        rw [List.drop_append, hd, List.drop_of_length_le (by omega), List.nil_append]
      rw [h3] at h2
      exact List.mem_of_mem_drop h2
/-- What is below a key. -/
def lowF (k : Bs) (m : List It) : List It := m.filter fun y => ltL y.1 k
theorem low_ins {k : Bs} {z : It} : ∀ {out : List It}, Asc2 out → lowF k (insR z out) = if ltL z.1 k = true then insR z (lowF k out) else lowF k out
  | [], _ => by
    unfold lowF insR
    rw [List.filter_cons]
    split <;> rfl
  | y :: r, h => by
    have h1 := List.pairwise_cons.1 h
    have ih := low_ins (k := k) (z := z) h1.2
    unfold lowF at ih ⊢
    rw [show insR z (y :: r) = if ltL y.1 z.1 = true then y :: insR z r else if y.1 = z.1 then y :: r else z :: y :: r from rfl]
    by_cases hyz : ltL y.1 z.1 = true
    · rw [if_pos hyz, List.filter_cons, List.filter_cons, ih]
      by_cases hy : ltL y.1 k = true
      · rw [if_pos hy, if_pos hy]
        by_cases hz : ltL z.1 k = true
        · rw [if_pos hz, if_pos hz]
          rw [show ∀ t, insR z (y :: t) = if ltL y.1 z.1 = true then y :: insR z t else if y.1 = z.1 then y :: t else z :: y :: t from fun _ => rfl, if_pos hyz]
        · rw [if_neg hz, if_neg hz]
      · rw [if_neg hy, if_neg hy, if_neg (fun hz => hy (ltL_trans hyz hz))]
    · rw [if_neg hyz]
      by_cases he : y.1 = z.1
      · rw [if_pos he, List.filter_cons]
        by_cases hy : ltL y.1 k = true
        · rw [if_pos hy, if_pos (by rw [← he]; exact hy)]
          rw [show ∀ t, insR z (y :: t) = if ltL y.1 z.1 = true then y :: insR z t else if y.1 = z.1 then y :: t else z :: y :: t from fun _ => rfl, if_neg hyz, if_pos he]
        · rw [if_neg hy, if_neg (by rw [← he]; exact hy)]
      · rw [if_neg he, List.filter_cons]
        have hzy := ltL_tot hyz he
        by_cases hz : ltL z.1 k = true
        · rw [if_pos hz, if_pos hz, List.filter_cons]
          by_cases hy : ltL y.1 k = true
          · rw [if_pos hy]
            rw [show ∀ t, insR z (y :: t) = if ltL y.1 z.1 = true then y :: insR z t else if y.1 = z.1 then y :: t else z :: y :: t from fun _ => rfl, if_neg hyz, if_neg he]
          · rw [if_neg hy]
            have h0 : r.filter (fun y => ltL y.1 k) = [] := List.filter_eq_nil_iff.2 fun w hw hk => hy (ltL_trans (h1.1 w hw) hk)
            rw [h0]; rfl
        · rw [if_neg hz, if_neg hz]
theorem low_ris {k : Bs} : ∀ (l : List It) {out out' : List It}, Asc2 out → Asc2 out' → lowF k out = lowF k out' → lowF k (l.foldl insL out) = lowF k (l.foldl insL out')
  | [], _, _, _, _, h => h
  | x :: l, out, out', h1, h2, h => by
    rw [List.foldl_cons, List.foldl_cons, insL_eq, insL_eq]
    exact low_ris l (insR_asc h1) (insR_asc h2) (by rw [low_ins h1, low_ins h2, h])
theorem low_split {k : Bs} : ∀ {m : List It}, Asc2 m → ∃ b, m = lowF k m ++ b ∧ ∀ y ∈ b, ltL y.1 k = false
  | [], _ => ⟨[], rfl, fun y hy => by cases hy⟩
  | y :: r, h => by
    have h1 := List.pairwise_cons.1 h
    by_cases hy : ltL y.1 k = true
    · obtain ⟨b, e, hb⟩ := low_split (k := k) h1.2
      refine ⟨b, ?_, hb⟩
      unfold lowF at e ⊢
      rw [List.filter_cons, if_pos hy, List.cons_append, ← e]
    · have h0 : lowF k (y :: r) = [] := List.filter_eq_nil_iff.2 fun w hw hk => by
        rcases List.mem_cons.1 hw with rfl | hw
        · exact hy hk
        · exact hy (ltL_trans (h1.1 w hw) hk)
      refine ⟨y :: r, by rw [h0]; rfl, fun w hw => ?_⟩
      cases hk : ltL w.1 k with
      | false => rfl
      | true =>
        exfalso
        rcases List.mem_cons.1 hw with rfl | hw
        · exact hy hk
        · exact hy (ltL_trans (h1.1 w hw) hk)
theorem ris_low (x : It) (l : List It) : lowF x.1 (risL (x :: l)) = lowF x.1 (risL l) := by
  unfold risL
  rw [List.foldl_cons]
  refine low_ris l ?_ List.Pairwise.nil ?_
  · rw [insL_eq]; exact List.pairwise_singleton _ _
  · rw [insL_eq]
    show lowF x.1 [x] = []
    unfold lowF
    rw [List.filter_cons, if_neg (by rw [ltL_irrefl]; simp)]
    rfl
/-- A part that isn't the last one, and is below the key, both lists have. -/
theorem near_part {k : Bs} {m n : List It} (hm : Asc2 m) (hn : Asc2 n) (he : lowF k n = lowF k m) {i : Nat} (hi : i + 1 < (partsOf m).length) {q : List It} (hq : (partsOf m)[i]? = some q) (hk : ltL (itD q (q.length - 1)).1 k = true) : q ∈ partsOf n := by
  obtain ⟨b, e1, hb⟩ := low_split (k := k) hm
  obtain ⟨b', e2, _⟩ := low_split (k := k) hn
  rw [he] at e2
  generalize lowF k m = a at *
  have hq1 := partsOf_mem (List.mem_of_getElem? hq)
  subst e1
  subst e2
  obtain ⟨C, r, hs, h1, hC, hr⟩ := parts_app a b
  obtain ⟨C', r', _, h2, hC', hr'⟩ := parts_app a b'
  rw [h1] at hq hi
  rw [h2, hC', ← hC]
  refine List.mem_append_left _ ?_
  by_cases hlt : i < (partsL C a).length
  · rw [List.getElem?_append_left hlt] at hq
    exact List.mem_of_getElem? hq
  · rw [List.getElem?_append_right (by omega)] at hq
    by_cases hb0 : b = []
    · subst hb0
      rw [List.map_nil, cutG_nil] at hi
      rw [List.length_append, partsL_len C a, partsL_len] at hi
      rw [partsL_len] at hlt
      split at hi <;> simp at hi <;> omega
    · have := open_last C r a b hs hb0 q (List.mem_of_getElem? hq) (fun e => by rw [e] at hq1; simp at hq1)
      rw [hb _ this] at hk
      cases hk
/-- The nodes of a tree, from a level on: each is right, and of that level at least. -/
theorem tree_levels : ∀ (f lev : Nat) (m : List It) (acc : List Bs), m.length ≤ f → lev ≤ 9 → (m.length - 1) * 2 ^ lev ≤ 1000 → LvS lev m → mapOk m = true →
    ∃ T, (treeG f lev m acc).2 = acc ++ T ∧ (∀ t ∈ T, ∃ k q, lev ≤ k ∧ k ≤ 32 ∧ parseL t = some (k, q)) ∧ (∃ T', T = levelL lev m ++ T' ∧ ∀ t ∈ T', ∃ k q, lev < k ∧ k ≤ 32 ∧ parseL t = some (k, q)) := by
  intro f
  induction f with
  | zero => intro lev m acc hf _ _ h; have := h.pos; omega
  | succ f ih =>
    intro lev m acc hf hv hh h hm
    have hp := h.pos
    have hlv : ∀ t ∈ levelL lev m, ∃ k q, lev ≤ k ∧ k ≤ 32 ∧ parseL t = some (k, q) := fun t ht => by
      unfold levelL at ht
      obtain ⟨q, hq, rfl⟩ := List.mem_map.1 ht
      exact ⟨lev, q, Nat.le_refl _, by omega, parse_node (by omega) (partsOf_mem hq).2 (node_right h hm hq)⟩
    unfold treeG
    by_cases h1 : (upsL lev m).length = 1
    · rw [if_pos h1]
      exact ⟨levelL lev m, rfl, hlv, [], by simp, fun t ht => by cases ht⟩
    · rw [if_neg h1]
      have hu := h.up
      have huh := ups_half lev m
      have hpos := hu.pos
      have hhalf : ((upsL lev m).length - 1) * 2 ^ (lev + 1) ≤ 1000 := by
        have e1 : ((upsL lev m).length - 1) * 2 ≤ m.length - 1 := by omega
        have e2 := Nat.mul_le_mul_right (2 ^ lev) e1
        rw [Nat.pow_succ, Nat.mul_comm (2 ^ lev) 2, ← Nat.mul_assoc]
        omega
      have hlo := two_pow_le (by omega) hhalf
      obtain ⟨T, e, hT, _⟩ := ih (lev + 1) (upsL lev m) (acc ++ levelL lev m) (by omega) hlo hhalf hu (ups_ok hm)
      refine ⟨levelL lev m ++ T, by rw [e, List.append_assoc], fun t ht => ?_, T, rfl, fun t ht => ?_⟩
      · rcases List.mem_append.1 ht with ht | ht
        · exact hlv t ht
        · obtain ⟨k, q, h3, h4⟩ := hT t ht
          exact ⟨k, q, by omega, h4⟩
      · obtain ⟨k, q, h3, h4⟩ := hT t ht
        exact ⟨k, q, by omega, h4⟩
/-- A map's nodes: those of level 0, then others. -/
theorem build_levels {m : List It} (hm : mapOk m = true) (hl : m.length ≤ 1000) (hs : szL m ≤ 40000) : (∀ t ∈ (buildL m).2, ∃ k q, parseL t = some (k, q)) ∧
    (m ≠ [] → ∃ T, (buildL m).2 = levelL 0 m ++ T ∧ ∀ t ∈ T, ∃ k q, 0 < k ∧ k ≤ 32 ∧ parseL t = some (k, q)) ∧ (m = [] → (buildL m).2 = [nodeL 0 []]) := by
  unfold buildL
  rw [if_pos hm]
  by_cases h0 : m = []
  · subst h0
    have e : treeL [] = (sha (nodeL 0 []), [nodeL 0 []]) := rfl
    rw [e]
    refine ⟨fun t ht => ?_, fun h => absurd rfl h, fun _ => rfl⟩
    rw [List.mem_singleton.1 ht]
    exact ⟨0, [], parse_node (by omega) (by simp) rfl⟩
  · unfold treeL
    rw [if_neg h0]
    have hpos := List.length_pos_iff.2 h0
    obtain ⟨T, e, hT, T', e', hT'⟩ := tree_levels m.length 0 m [] (Nat.le_refl _) (by omega) (by rw [Nat.pow_zero]; omega) (LvS.base hl hpos hm hs) hm
    rw [e, List.nil_append]
    refine ⟨fun t ht => ?_, fun _ => ⟨T', e', hT'⟩, fun h => absurd h h0⟩
    obtain ⟨k, q, _, _, h⟩ := hT t ht
    exact ⟨k, q, h⟩
/-- A node of level 0 ahead of another one, and below the key, is a node of both trees. -/
theorem near_node {x : It} {l : List It} (h1 : Few l) (h2 : mapOk (risL (x :: l)) = true) {i : Nat} {q q' : List It}
    (hi : i + 1 < (buildL (risL l)).2.length) (hp : parseL ((buildL (risL l)).2.getD i []) = some (0, q)) (hp' : parseL ((buildL (risL l)).2.getD (i + 1) []) = some (0, q')) (hk : ltL (itD q (q.length - 1)).1 x.1 = true) :
    ∃ t ∈ levelL 0 (risL (x :: l)), t = (buildL (risL l)).2.getD i [] := by
  have hm := ris_map h1
  have hb := build_levels hm (ris_few2 h1).1 (ris_few2 h1).2
  have hm0 : risL l ≠ [] := fun e => by
    rw [hb.2.2 e] at hi; simp at hi
  obtain ⟨T, e, hT⟩ := hb.2.1 hm0
  rw [e] at hi hp hp' ⊢
  have hlen : (levelL 0 (risL l)).length = (partsOf (risL l)).length := by unfold levelL; rw [List.length_map]
  have hlt : i + 1 < (levelL 0 (risL l)).length := by
    by_cases hh : i + 1 < (levelL 0 (risL l)).length
    · exact hh
    · exfalso
      rw [List.getD_eq_getElem?_getD, List.getElem?_append_right (by omega)] at hp'
      rw [List.length_append] at hi
      have hlt2 : i + 1 - (levelL 0 (risL l)).length < T.length := by omega
      rw [List.getElem?_eq_getElem hlt2] at hp'
      obtain ⟨k, p, hk0, _, hpk⟩ := hT _ (List.getElem_mem hlt2)
      rw [Option.getD_some, hpk] at hp'
      injection hp' with hp'
      injection hp' with ha _
      omega
  have hpi : i < (partsOf (risL l)).length := by omega
  have hgi : (levelL 0 (risL l) ++ T).getD i [] = nodeL 0 (partsOf (risL l))[i] := by
    rw [List.getD_eq_getElem?_getD, List.getElem?_append_left (by omega)]
    unfold levelL
    rw [List.getElem?_map, List.getElem?_eq_getElem hpi]
    rfl
  rw [hgi] at hp ⊢
  have hpm := List.getElem_mem hpi
  have hlv : LvS 0 (risL l) := LvS.base (ris_few2 h1).1 (List.length_pos_iff.2 hm0) hm (ris_few2 h1).2
  rw [parse_node (by omega) (partsOf_mem hpm).2 (node_right hlv hm hpm)] at hp
  injection hp with hp
  injection hp with _ hp
  have := near_part (k := x.1) ((mapOk_iff _).1 hm).2 ((mapOk_iff _).1 h2).2 (ris_low x l) (i := i) (by omega) (q := q) (by rw [List.getElem?_eq_getElem hpi, hp]) hk
  rw [hp]
  exact ⟨nodeL 0 q, List.mem_map.2 ⟨q, this, rfl⟩, rfl⟩
end Go.Proofs.YtfjlkphpeneahaaDoor
