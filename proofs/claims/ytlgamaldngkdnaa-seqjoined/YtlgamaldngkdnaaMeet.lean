/- What two joined lists that rise have. -/
import Derived.Test.YtlgamaldngkdnaaBoth
import Derived.Test.YtlgamaldngkdnaaOrder
namespace Go.Proofs.Ytlgamaldngkdnaa
open Go Go.RowKit

/-- What the left has, and the right, of what is joined. -/
theorem joinL_lefts (a b : List Pr) : ((joinL a b).filter (·.hl)).map (fun x => (x.k, x.l)) = a := by
  induction a, b using joinL.induct with
  | case1 b =>
    rw [joinL_nil]
    induction b with
    | nil => rfl
    | cons y b ih => rw [List.map_cons, List.filter_cons_of_neg (by simp [rightB])]; exact ih
  | case2 x a ih => rw [joinL_left, List.filter_cons_of_pos (by rfl), List.map_cons, ih]; rfl
  | case3 x a y b h ih => rw [joinL_r a b h, List.filter_cons_of_neg (by simp [rightB]), ih]
  | case4 x a y b h h2 ih => rw [joinL_l a b (by simpa using h) h2, List.filter_cons_of_pos (by rfl), List.map_cons, ih]; rfl
  | case5 x a y b h h2 ih => rw [joinL_b a b (by simpa using h) (by simpa using h2), List.filter_cons_of_pos (by rfl), List.map_cons, ih]; rfl
/-- Where neither comes first the keys are one. -/
theorem lt_eq {s t : ByteArray} (h : lt s t = false) (k : lt t s = false) : s = t := by
  have := less_total _ _ h k
  rw [ByteArray.toList_eq, ByteArray.toList_eq] at this
  exact ByteArray.ext (Array.ext' this)
theorem joinL_rights (a b : List Pr) : ((joinL a b).filter (·.hr)).map (fun x => (x.k, x.r)) = b := by
  induction a, b using joinL.induct with
  | case1 b =>
    rw [joinL_nil]
    induction b with
    | nil => rfl
    | cons y b ih => rw [List.map_cons, List.filter_cons_of_pos (by rfl), List.map_cons, ih]; rfl
  | case2 x a ih => rw [joinL_left, List.filter_cons_of_neg (by simp [leftB]), ih]
  | case3 x a y b h ih => rw [joinL_r a b h, List.filter_cons_of_pos (by rfl), List.map_cons, ih]; rfl
  | case4 x a y b h h2 ih => rw [joinL_l a b (by simpa using h) h2, List.filter_cons_of_neg (by simp [leftB]), ih]
  | case5 x a y b h h2 ih =>
    rw [joinL_b a b (by simpa using h) (by simpa using h2), List.filter_cons_of_pos (by rfl), List.map_cons, ih]
    have := lt_eq (s := x.1) (t := y.1) (by simpa using h2) (by simpa using h)
    exact congrArg (· :: b) (Prod.ext this rfl)
theorem joinL_some (a b : List Pr) : ∀ x ∈ joinL a b, x.hl = true ∨ x.hr = true := by
  induction a, b using joinL.induct with
  | case1 b => rw [joinL_nil]; intro x hx; obtain ⟨y, _, rfl⟩ := List.mem_map.1 hx; exact .inr rfl
  | case2 x a ih => rw [joinL_left]; intro z hz; rcases List.mem_cons.1 hz with rfl | hz; exact .inl rfl; exact ih z hz
  | case3 x a y b h ih => rw [joinL_r a b h]; intro z hz; rcases List.mem_cons.1 hz with rfl | hz; exact .inr rfl; exact ih z hz
  | case4 x a y b h h2 ih => rw [joinL_l a b (by simpa using h) h2]; intro z hz; rcases List.mem_cons.1 hz with rfl | hz; exact .inl rfl; exact ih z hz
  | case5 x a y b h h2 ih => rw [joinL_b a b (by simpa using h) (by simpa using h2)]; intro z hz; rcases List.mem_cons.1 hz with rfl | hz; exact .inl rfl; exact ih z hz
theorem joinL_keys (a b : List Pr) : ∀ x ∈ joinL a b, (∃ p ∈ a, x.k = p.1) ∨ (∃ p ∈ b, x.k = p.1) := by
  intro x hx
  rcases joinL_some a b x hx with h | h
  · refine .inl ⟨(x.k, x.l), ?_, rfl⟩
    have h2 := List.mem_map_of_mem (f := fun x : Bt => (x.k, x.l)) (List.mem_filter.2 ⟨hx, h⟩)
    rwa [joinL_lefts a b] at h2
  · refine .inr ⟨(x.k, x.r), ?_, rfl⟩
    have h2 := List.mem_map_of_mem (f := fun x : Bt => (x.k, x.r)) (List.mem_filter.2 ⟨hx, h⟩)
    rwa [joinL_rights a b] at h2
/-- Rising, in pairs. -/
theorem rise_pairwise : ∀ {a : List Pr}, Rise a → a.Pairwise (fun p q => lt p.1 q.1 = true)
  | [], _ => .nil
  | x :: a, h => .cons (fun y hy => by
      obtain ⟨i, hi, rfl⟩ := List.getElem_of_mem hy
      have := h 0 (i + 1) (by omega) (by simpa using hi)
      simpa [ky, hi] using this) (rise_pairwise (fun i j hij hj => by simpa [ky] using h (i + 1) (j + 1) (by omega) (by simpa using hj)))
theorem joinL_pairwise (a b : List Pr) (ha : a.Pairwise (fun p q => lt p.1 q.1 = true)) (hb : b.Pairwise (fun p q => lt p.1 q.1 = true)) : (joinL a b).Pairwise (fun p q => lt p.k q.k = true) := by
  induction a, b using joinL.induct with
  | case1 b => rw [joinL_nil, List.pairwise_map]; exact hb
  | case2 x a ih =>
    rw [joinL_left]
    refine .cons (fun z hz => ?_) (ih ha.tail hb)
    rcases joinL_keys a [] z hz with ⟨p, hp, e⟩ | ⟨p, hp, e⟩
    · rw [e]; exact List.rel_of_pairwise_cons ha hp
    · cases hp
  | case3 x a y b h ih =>
    rw [joinL_r a b h]
    refine .cons (fun z hz => ?_) (ih ha hb.tail)
    rcases joinL_keys (x :: a) b z hz with ⟨p, hp, e⟩ | ⟨p, hp, e⟩
    · rw [e]
      rcases List.mem_cons.1 hp with rfl | hp
      · exact h
      · exact lt_trans' h (List.rel_of_pairwise_cons ha hp)
    · rw [e]; exact List.rel_of_pairwise_cons hb hp
  | case4 x a y b h h2 ih =>
    rw [joinL_l a b (by simpa using h) h2]
    refine .cons (fun z hz => ?_) (ih ha.tail hb)
    rcases joinL_keys a (y :: b) z hz with ⟨p, hp, e⟩ | ⟨p, hp, e⟩
    · rw [e]; exact List.rel_of_pairwise_cons ha hp
    · rw [e]
      rcases List.mem_cons.1 hp with rfl | hp
      · exact h2
      · exact lt_trans' h2 (List.rel_of_pairwise_cons hb hp)
  | case5 x a y b h h2 ih =>
    rw [joinL_b a b (by simpa using h) (by simpa using h2)]
    have he := lt_eq (s := x.1) (t := y.1) (by simpa using h2) (by simpa using h)
    refine .cons (fun z hz => ?_) (ih ha.tail hb.tail)
    rcases joinL_keys a b z hz with ⟨p, hp, e⟩ | ⟨p, hp, e⟩
    · rw [e]; exact List.rel_of_pairwise_cons ha hp
    · rw [e, show (bothB x y).k = y.1 from he]; exact List.rel_of_pairwise_cons hb hp
/-- How many of the first i have p; the i-th of them. -/
theorem filter_at {α β : Type} (p : α → Bool) (f : α → β) : ∀ (l : List α) (i : Nat) (h : i < l.length), p l[i] = true → ((l.filter p).map f)[(l.take i).countP p]? = some (f l[i])
  | [], _, h, _ => absurd h (by simp)
  | x :: l, 0, _, hp => by
    have hx : p x = true := hp
    rw [List.filter_cons_of_pos hx]; rfl
  | x :: l, i + 1, h, hp => by
    have ih := filter_at p f l i (by simpa using h) hp
    by_cases hx : p x = true
    · rw [List.filter_cons_of_pos hx, List.take_succ_cons, List.countP_cons_of_pos hx, List.map_cons, List.getElem?_cons_succ]; exact ih
    · rw [List.filter_cons_of_neg hx, List.take_succ_cons, List.countP_cons_of_neg hx]; exact ih
theorem RdB.five {w : World} {a : Option Addr} {bs : List Bt} (h : RdB w a bs) (i : Nat) (hi : i < bs.length) : ∃ b off, a = some ⟨b, off, none⟩ ∧ w.cell? ⟨b, off + i * 5, none⟩ = some (.string (bt bs i).k) ∧ w.cell? ⟨b, off + i * 5 + 1, none⟩ = some (.int .i64 (bt bs i).l) ∧
    w.cell? ⟨b, off + i * 5 + 2, none⟩ = some (.int .i64 (bt bs i).r) ∧ w.cell? ⟨b, off + i * 5 + 3, none⟩ = some (.bool (bt bs i).hl) ∧ w.cell? ⟨b, off + i * 5 + 4, none⟩ = some (.bool (bt bs i).hr) := by
  obtain ⟨b, off, ha, hc⟩ := h i hi
  exact ⟨b, off, ha, hc 0 (by omega), hc 1 (by omega), hc 2 (by omega), hc 3 (by omega), hc 4 (by omega)⟩
/-- How many of the first i the left has, and the right. -/
def lcnt (L : List Bt) (i : Nat) : Nat := (L.take i).countP (·.hl)
def rcnt (L : List Bt) (i : Nat) : Nat := (L.take i).countP (·.hr)
theorem bt_eq (L : List Bt) (i : Nat) (h : i < L.length) : bt L i = L[i] := by simp [bt, h]
theorem lcnt_succ (L : List Bt) (i : Nat) (h : i < L.length) : lcnt L (i + 1) = lcnt L i + (if (bt L i).hl then 1 else 0) := by
  unfold lcnt; rw [List.take_succ_eq_append_getElem h, List.countP_append, bt_eq L i h, List.countP_singleton]
theorem rcnt_succ (L : List Bt) (i : Nat) (h : i < L.length) : rcnt L (i + 1) = rcnt L i + (if (bt L i).hr then 1 else 0) := by
  unfold rcnt; rw [List.take_succ_eq_append_getElem h, List.countP_append, bt_eq L i h, List.countP_singleton]
theorem at_of {us : List Pr} {n : Nat} {p : Pr} (h : us[n]? = some p) : n < us.length ∧ ky us n = p.1 ∧ vl us n = p.2 := by
  obtain ⟨hn, he⟩ := List.getElem?_eq_some_iff.1 h
  exact ⟨hn, by unfold ky; rw [List.getD_eq_getElem?_getD, h]; rfl, by unfold vl; rw [List.getD_eq_getElem?_getD, h]; rfl⟩
theorem meet_left {us bs : List Pr} (i : Nat) (h : i < (joinL us bs).length) (hp : (bt (joinL us bs) i).hl = true) : lcnt (joinL us bs) i < us.length ∧ ky us (lcnt (joinL us bs) i) = (bt (joinL us bs) i).k ∧ vl us (lcnt (joinL us bs) i) = (bt (joinL us bs) i).l := by
  rw [bt_eq _ i h] at hp ⊢
  have := filter_at (·.hl) (fun x : Bt => (x.k, x.l)) (joinL us bs) i h hp
  rw [joinL_lefts] at this
  exact at_of this
theorem meet_right {us bs : List Pr} (i : Nat) (h : i < (joinL us bs).length) (hp : (bt (joinL us bs) i).hr = true) : rcnt (joinL us bs) i < bs.length ∧ ky bs (rcnt (joinL us bs) i) = (bt (joinL us bs) i).k ∧ vl bs (rcnt (joinL us bs) i) = (bt (joinL us bs) i).r := by
  rw [bt_eq _ i h] at hp ⊢
  have := filter_at (·.hr) (fun x : Bt => (x.k, x.r)) (joinL us bs) i h hp
  rw [joinL_rights] at this
  exact at_of this
theorem meet_all (us bs : List Pr) : lcnt (joinL us bs) (joinL us bs).length = us.length ∧ rcnt (joinL us bs) (joinL us bs).length = bs.length := by
  unfold lcnt rcnt
  rw [List.take_length, List.countP_eq_length_filter, List.countP_eq_length_filter]
  exact ⟨by have := congrArg List.length (joinL_lefts us bs); rwa [List.length_map] at this, by have := congrArg List.length (joinL_rights us bs); rwa [List.length_map] at this⟩
theorem meet_some (us bs : List Pr) (i : Nat) (h : i < (joinL us bs).length) : (bt (joinL us bs) i).hl = true ∨ (bt (joinL us bs) i).hr = true := by
  rw [bt_eq _ i h]; exact joinL_some us bs _ (List.getElem_mem h)
theorem meet_rise {us bs : List Pr} (ha : Rise us) (hb : Rise bs) (i : Nat) (h : i + 1 < (joinL us bs).length) : lt (bt (joinL us bs) i).k (bt (joinL us bs) (i + 1)).k = true := by
  rw [bt_eq _ i (by omega), bt_eq _ (i + 1) h]
  exact List.pairwise_iff_getElem.1 (joinL_pairwise us bs (rise_pairwise ha) (rise_pairwise hb)) i (i + 1) (by omega) h (by omega)
end Go.Proofs.Ytlgamaldngkdnaa
