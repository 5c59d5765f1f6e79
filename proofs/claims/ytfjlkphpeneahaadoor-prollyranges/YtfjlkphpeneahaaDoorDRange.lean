/- What is told of a map's tree from a key on; a map is what is below a key, within two, and from the second one on, plainly. -/
import Derived.Test.YtfjlkphpeneahaaDoorM10
import Derived.Test.YtfjlkphpeneahaaDoorTWithin
namespace Go.Proofs.YtfjlkphpeneahaaDoor
open Go Go.RowKit

theorem seqW_parts2 (f g : It → List (List It) × Bool) (up : List It → It) (h : List It → List It) : ∀ parts : List (List It), (∀ q ∈ parts, g (up q) = seqW f (h q)) → (seqW f (parts.map h).flatten).2 = true → seqW g (parts.map up) = seqW f (parts.map h).flatten
  | [], _, _ => rfl
  | q :: parts, he, ht => by
    rw [show (q :: parts).map h = h q :: parts.map h from rfl, List.flatten_cons] at ht ⊢
    have h1 := seqW_pre f _ _ ht
    rw [seqW_append f (h q) _ h1] at ht ⊢
    have h2 := seqW_parts2 f g up h parts (fun p hp => he p (List.mem_cons_of_mem _ hp)) ht
    rw [List.map_cons, seqW_cons, he q List.mem_cons_self, if_pos h1, h2]
/-- The parts behind those that are below the key. -/
def behindL (key : Bs) (ps : List (List It)) : List (List It) := ps.dropWhile fun q => ltL (itD q (q.length - 1)).1 key
theorem behind_cons (key : Bs) (q : List It) (ps : List (List It)) : behindL key (q :: ps) = if ltL (itD q (q.length - 1)).1 key = true then behindL key ps else q :: ps := by
  unfold behindL; rw [List.dropWhile_cons]
theorem behind_mem {key : Bs} {ps : List (List It)} {q : List It} (h : q ∈ behindL key ps) : q ∈ ps := (List.dropWhile_sublist _).subset h
theorem fromL_ups (key : Bs) (lev : Nat) : ∀ ps : List (List It), fromL key (ps.map (upI lev)) = (behindL key ps).map (upI lev)
  | [] => rfl
  | q :: ps => by
    rw [List.map_cons, fromL_cons, behind_cons]
    by_cases h : ltL (itD q (q.length - 1)).1 key = true
    · rw [if_pos h, if_pos (show ltL (upI lev q).1 key = true from h)]
      exact fromL_ups key lev ps
    · rw [if_neg h, if_neg (show ¬ ltL (upI lev q).1 key = true from h)]
      rfl
theorem last_all {key : Bs} {q : List It} (hq : Asc2 q) (hx : ltL (itD q (q.length - 1)).1 key = true) : ∀ x ∈ q, ltL x.1 key = true := fun x hxq => by
  obtain ⟨i, hi, rfl⟩ := List.getElem_of_mem hxq
  rw [← itD_at hi]
  by_cases e : i = q.length - 1
  · rw [e]; exact hx
  · exact ltL_trans (asc_at hq (i := i) (j := q.length - 1) (by omega) (by omega)) hx
theorem behind_spec {key : Bs} : ∀ {ps : List (List It)}, Asc2 ps.flatten → ∃ pre, ps.flatten = pre ++ (behindL key ps).flatten ∧ ∀ x ∈ pre, ltL x.1 key = true
  | [], _ => ⟨[], rfl, fun x hx => by cases hx⟩
  | q :: ps, h => by
    rw [List.flatten_cons] at h ⊢
    rw [behind_cons]
    by_cases hl : ltL (itD q (q.length - 1)).1 key = true
    · rw [if_pos hl]
      obtain ⟨pre, e, hp⟩ := behind_spec (key := key) (List.pairwise_append.1 h).2.1
      refine ⟨q ++ pre, by rw [e, List.append_assoc], fun x hx => ?_⟩
      rcases List.mem_append.1 hx with hx | hx
      · exact last_all (List.pairwise_append.1 h).1 hl x hx
      · exact hp x hx
    · rw [if_neg hl]
      exact ⟨[], by rw [List.flatten_cons]; rfl, fun x hx => by cases hx⟩
theorem fromL_in2 {key : Bs} : ∀ {a : List It} (b : List It), (∃ x ∈ a, ltL x.1 key = false) → fromL key (a ++ b) = fromL key a ++ b
  | [], _, ⟨_, h, _⟩ => by cases h
  | x :: a, b, h => by
    rw [List.cons_append, fromL_cons, fromL_cons]
    by_cases hx : ltL x.1 key = true
    · rw [if_pos hx, if_pos hx]
      obtain ⟨y, hy, hf⟩ := h
      rcases List.mem_cons.1 hy with rfl | hy
      · rw [hx] at hf; cases hf
      · exact fromL_in2 b ⟨y, hy, hf⟩
    · rw [if_neg hx, if_neg hx]; rfl
theorem fromL_all {key : Bs} {q : List It} (h : ∀ x ∈ q, ltL x.1 key = false) : fromL key q = q := by
  cases q with
  | nil => rfl
  | cons x q => rw [fromL_cons, if_neg (by rw [h x (by simp)]; simp)]
theorem map_all {key : Bs} : ∀ {ps : List (List It)}, (∀ q ∈ ps, ∀ x ∈ q, ltL x.1 key = false) → (ps.map (fromL key)).flatten = ps.flatten
  | [], _ => rfl
  | q :: ps, h => by
    rw [List.map_cons, List.flatten_cons, List.flatten_cons, fromL_all (h q (by simp)), map_all fun p hp => h p (by simp [hp])]
theorem behind_from {key : Bs} : ∀ {ps : List (List It)}, (∀ q ∈ ps, q ≠ []) → Asc2 ps.flatten → ((behindL key ps).map (fromL key)).flatten = fromL key ps.flatten
  | [], _, _ => rfl
  | q :: ps, hne, h => by
    rw [List.flatten_cons] at h ⊢
    have hlp := List.length_pos_iff.2 (hne q (by simp))
    have hlast : itD q (q.length - 1) ∈ q := itD_mem (l := q) (i := q.length - 1) (by omega)
    rw [behind_cons]
    by_cases hl : ltL (itD q (q.length - 1)).1 key = true
    · rw [if_pos hl, fromL_lt _ (last_all (List.pairwise_append.1 h).1 hl)]
      exact behind_from (fun p hp => hne p (by simp [hp])) (List.pairwise_append.1 h).2.1
    · rw [if_neg hl, List.map_cons, List.flatten_cons, fromL_in2 _ ⟨_, hlast, by simpa using hl⟩, map_all]
      intro p hp x hx
      cases hk : ltL x.1 key with
      | false => rfl
      | true => exact absurd (ltL_trans ((List.pairwise_append.1 h).2.2 _ hlast x (List.mem_flatten.2 ⟨p, hp, hx⟩)) hk) hl
/-- The walk over the items of a level, from a key on. -/
def lvK (lx : Tx) (key : Bs) (lev : Nat) (m : List It) : List (List It) × Bool := seqW (fun x => match belowP lx lev x with | some q => walkG lx key (lev - 1) q | none => ([], false)) m
/-- What the levels of a tree yield from a key on. -/
def YieldsK (lx : Tx) (key : Bs) (l : List It) (lev : Nat) (m : List It) : Prop := (lev = 0 ∧ m = l) ∨ (1 ≤ lev ∧ ∃ ps, lvK lx key lev (fromL key m) = (ps, true) ∧ ∃ pre, l = pre ++ ps.flatten ∧ ∀ x ∈ pre, ltL x.1 key = true)
theorem YieldsK.up {lx : Tx} {key : Bs} {l : List It} {lev : Nat} {m : List It} (hy : YieldsK lx key l lev m) (hv : lev ≤ 32) (h : LvS lev m) (hm : mapOk m = true) (hf : ∀ q ∈ partsOf m, at_ lx (sha (nodeL lev q)) = some (nodeL lev q)) : YieldsK lx key l (lev + 1) (upsL lev m) := by
  have hasc : Asc2 (partsOf m).flatten := by rw [partsOf_flat]; exact ((mapOk_iff m).1 hm).2
  refine .inr ⟨by omega, ?_⟩
  rcases hy with ⟨rfl, rfl⟩ | ⟨h1, ps, h2, pre, h3, h4⟩
  · obtain ⟨pre, e, hp⟩ := behind_spec (key := key) hasc
    refine ⟨behindL key (partsOf m), ?_, pre, by rw [← e, partsOf_flat], hp⟩
    unfold lvK upsL
    rw [fromL_ups]
    refine seqW_one _ (upI 0) _ fun q hq => ?_
    rw [below_found hv h hm (behind_mem hq) (hf q (behind_mem hq))]
    rfl
  · obtain ⟨k, rfl⟩ : ∃ k, lev = k + 1 := ⟨lev - 1, by omega⟩
    refine ⟨ps, ?_, pre, h3, h4⟩
    have hbf := behind_from (key := key) (fun q hq => part_ne hq) hasc
    rw [partsOf_flat] at hbf
    have e : lvK lx key (k + 1 + 1) (fromL key (upsL (k + 1) m)) = lvK lx key (k + 1) ((behindL key (partsOf m)).map (fromL key)).flatten := by
      unfold lvK upsL
      rw [fromL_ups]
      refine seqW_parts2 _ _ (upI (k + 1)) (fromL key) _ (fun q hq => ?_) ?_
      · rw [below_found hv h hm (behind_mem hq) (hf q (behind_mem hq))]
        rfl
      · rw [hbf]
        show (lvK lx key (k + 1) (fromL key m)).2 = true
        rw [h2]
    rw [e, hbf, h2]
theorem tree_yieldsK (lx : Tx) (key : Bs) (l : List It) : ∀ (f lev : Nat) (m : List It) (acc : List Bs), m.length ≤ f → lev ≤ 9 → (m.length - 1) * 2 ^ lev ≤ 1000 → LvS lev m → mapOk m = true → YieldsK lx key l lev m →
    (∀ t ∈ (treeG f lev m acc).2, at_ lx (sha t) = some t) → ∃ k q, rootP lx (treeG f lev m acc).1 = some (k, q) ∧ LvS k q ∧ mapOk q = true ∧ YieldsK lx key l k q := by
  intro f
  induction f with
  | zero => intro lev m acc hf _ _ h; have := h.pos; omega
  | succ f ih =>
    intro lev m acc hf hv hh h hm hy hn
    have hp := h.pos
    unfold treeG at hn ⊢
    by_cases h1 : (upsL lev m).length = 1
    · rw [if_pos h1] at hn ⊢
      have hl1 : (partsOf m).length = 1 := by rw [← upsL_len lev m]; exact h1
      have hpf := partsOf_flat m
      obtain ⟨q, hq⟩ : ∃ q, partsOf m = [q] := List.length_eq_one_iff.1 hl1
      rw [hq] at hpf
      have e : q = m := by simpa using hpf
      subst e
      have hmem : q ∈ partsOf q := by rw [hq]; simp
      have hfd := hn (nodeL lev q) (List.mem_append_right _ (by unfold levelL; exact List.mem_map.2 ⟨q, hmem, rfl⟩))
      refine ⟨lev, q, ?_, h, hm, hy⟩
      have hu : itD (upsL lev q) 0 = upI lev q := by unfold upsL; rw [hq]; rfl
      show rootP lx (prn (itD (upsL lev q) 0)) = _
      rw [hu]
      exact node_found (by omega) h hm hmem hfd
    · rw [if_neg h1] at hn ⊢
      have hu := h.up
      have huh := ups_half lev m
      have hpos := hu.pos
      have hhalf : ((upsL lev m).length - 1) * 2 ^ (lev + 1) ≤ 1000 := by
        have e1 : ((upsL lev m).length - 1) * 2 ≤ m.length - 1 := by omega
        have e2 := Nat.mul_le_mul_right (2 ^ lev) e1
        rw [Nat.pow_succ, Nat.mul_comm (2 ^ lev) 2, ← Nat.mul_assoc]
        omega
      have hlo := two_pow_le (by omega) hhalf
      refine ih (lev + 1) (upsL lev m) _ (by omega) hlo hhalf hu (ups_ok hm) (hy.up (by omega) h hm fun q hq => ?_) hn
      exact hn _ (tree_acc f (lev + 1) _ _ _ (List.mem_append_right _ (by unfold levelL; exact List.mem_map.2 ⟨q, hq, rfl⟩)))
theorem yields_leavesK {lx : Tx} {key : Bs} {l : List It} {k : Nat} {q : List It} {r : Bs} (hr : rootP lx r = some (k, q)) (hy : YieldsK lx key l k q) : ∃ pre, l = pre ++ (leavesP lx r key).flatten ∧ ∀ x ∈ pre, ltL x.1 key = true := by
  unfold leavesP
  rw [hr]
  dsimp only
  rcases hy with ⟨rfl, rfl⟩ | ⟨h1, ps, h2, h3⟩
  · exact ⟨[], by show q = [] ++ ([q] : List (List It)).flatten; simp, fun x hx => by cases hx⟩
  · obtain ⟨k, rfl⟩ : ∃ j, k = j + 1 := ⟨k - 1, by omega⟩
    rw [show walkG lx key (k + 1) q = lvK lx key (k + 1) (fromL key q) from rfl, h2]
    exact h3
/-- From a key on a map's tree yields the map but for what is below the key. -/
theorem build_from {lx : Tx} {l : List It} (key : Bs) (hm : mapOk l = true) (hl : l.length ≤ 1000) (hs : szL l ≤ 40000) (hf : ∀ t ∈ (buildL l).2, at_ lx (sha t) = some t) : ∃ pre, l = pre ++ (leavesP lx (buildL l).1 key).flatten ∧ ∀ x ∈ pre, ltL x.1 key = true := by
  unfold buildL at hf ⊢
  rw [if_pos hm] at hf ⊢
  by_cases h0 : l = []
  · subst h0
    have e : treeL [] = (sha (nodeL 0 []), [nodeL 0 []]) := rfl
    rw [e] at hf ⊢
    have h1 := hf (nodeL 0 []) (by simp)
    refine yields_leavesK (k := 0) (q := []) ?_ (.inl ⟨rfl, rfl⟩)
    unfold rootP
    dsimp only at h1 ⊢
    rw [h1, Option.bind_some]
    exact parse_node (by omega) (by simp) rfl
  · unfold treeL at hf ⊢
    rw [if_neg h0] at hf ⊢
    have hpos := List.length_pos_iff.2 h0
    obtain ⟨k, q, h1, _, _, h2⟩ := tree_yieldsK _ key l l.length 0 l [] (Nat.le_refl _) (by omega) (by rw [Nat.pow_zero]; omega) (LvS.base hl hpos hm hs) hm (.inl ⟨rfl, rfl⟩) hf
    exact yields_leavesK h1 h2
theorem range_in {lx : Tx} {l : List It} (f t : Bs) (hm : mapOk l = true) (hl : l.length ≤ 1000) (hs : szL l ≤ 40000) (hf : ∀ t ∈ (buildL l).2, at_ lx (sha t) = some t) : witL f t (leavesP lx (buildL l).1 f).flatten = l.filter (inP f t) := by
  obtain ⟨pre, e, hp⟩ := build_from f hm hl hs hf
  have ha := ((mapOk_iff l).1 hm).2
  generalize (leavesP lx (buildL l).1 f).flatten = r at *
  have h0 : pre.filter (inP f t) = [] := List.filter_eq_nil_iff.2 fun x hx => by unfold inP; rw [hp x hx]; simp
  have he : l.filter (inP f t) = r.filter (inP f t) := by rw [e, List.filter_append, h0, List.nil_append]
  rw [e] at ha
  rw [he]
  exact wit_asc (List.pairwise_append.1 ha).2.1
theorem split_filter {k : Bs} : ∀ {m : List It}, Asc2 m → m = m.filter (fun y => ltL y.1 k) ++ m.filter (fun y => !ltL y.1 k)
  | [], _ => rfl
  | y :: r, h => by
    have h1 := List.pairwise_cons.1 h
    have ih := split_filter (k := k) h1.2
    by_cases hy : ltL y.1 k = true
    · rw [List.filter_cons, if_pos hy, List.filter_cons, if_neg (by rw [hy]; simp), List.cons_append, ← ih]
    · have hn : ∀ w ∈ y :: r, ltL w.1 k = false := fun w hw => by
        cases hk : ltL w.1 k with
        | false => rfl
        | true =>
          exfalso
          rcases List.mem_cons.1 hw with rfl | hw
          · exact hy hk
          · exact hy (ltL_trans (h1.1 w hw) hk)
      rw [List.filter_eq_nil_iff.2 (fun w hw => by rw [hn w hw]; simp), List.nil_append, List.filter_eq_self.2 (fun w hw => by rw [hn w hw]; rfl)]
/-- A map is what is below a key, within two, and from the second one on. -/
theorem three {m : List It} {a b t : Bs} (hm : Asc2 m) (hab : ltL b a = false) (ht : ∀ x ∈ m, ltL x.1 t = true) : m.filter (inP [] a) ++ (m.filter (inP a b) ++ m.filter (inP b t)) = m := by
  have h1 := split_filter (k := a) hm
  have h2 := split_filter (k := b) (m := m.filter (fun y => !ltL y.1 a)) (List.Pairwise.sublist List.filter_sublist hm)
  rw [List.filter_filter, List.filter_filter] at h2
  have e1 : m.filter (inP [] a) = m.filter (fun y => ltL y.1 a) := List.filter_congr fun x _ => by unfold inP; rw [ltL_nil]; rfl
  have e2 : m.filter (inP a b) = m.filter (fun y => ltL y.1 b && !ltL y.1 a) := List.filter_congr fun x _ => by unfold inP; rw [Bool.and_comm]
  have e3 : m.filter (inP b t) = m.filter (fun y => !ltL y.1 b && !ltL y.1 a) := List.filter_congr fun x hx => by
    unfold inP
    rw [ht x hx, Bool.and_true]
    cases hb : ltL x.1 b with
    | true => rfl
    | false =>
      cases ha : ltL x.1 a with
      | false => rfl
      | true =>
        exfalso
        by_cases he : x.1 = b
        · rw [he, hab] at ha; cases ha
        · have := ltL_trans (ltL_tot (by rw [hb]; simp) he) ha
          rw [hab] at this; cases this
  rw [e1, e2, e3, ← h2, ← h1]
end Go.Proofs.YtfjlkphpeneahaaDoor
