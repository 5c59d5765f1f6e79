/- Without a clash each key of a map is found in its tree, and no other one, plainly. A list by rising keys is a map; two maps' trees of one root, without a clash, are of one map, plainly. -/
import Derived.Test.YtfjlkphpeneahaaDoorM9
import Derived.Test.YtfjlkphpeneahaaDoorM3
namespace Go.Proofs.YtfjlkphpeneahaaDoor
open Go Go.RowKit

/-- What a map has at a key. -/
def lookL (key : Bs) (l : List It) : Option Bs := match fromL key l with | x :: _ => if x.1 = key then some x.2 else none | [] => none
theorem findG_head {lx : Tx} {key : Bs} {lev : Nat} {a b : List It} (h : (fromL key a).head? = (fromL key b).head?) : findG lx key lev a = findG lx key lev b := by
  cases lev with
  | zero =>
    unfold findG
    cases ha : fromL key a <;> cases hb : fromL key b <;> rw [ha, hb] at h <;> simp at h
    · subst h; rfl
  | succ lev =>
    unfold findG
    cases ha : fromL key a <;> cases hb : fromL key b <;> rw [ha, hb] at h <;> simp at h
    · subst h; rfl
theorem fromL_lt {key : Bs} : ∀ {a : List It} (b : List It), (∀ x ∈ a, ltL x.1 key = true) → fromL key (a ++ b) = fromL key b
  | [], _, _ => rfl
  | x :: a, b, h => by
    rw [List.cons_append, fromL_cons, if_pos (h x (by simp))]
    exact fromL_lt b fun y hy => h y (by simp [hy])
theorem fromL_in {key : Bs} : ∀ {a : List It} (b : List It), (∃ x ∈ a, ltL x.1 key = false) → (fromL key (a ++ b)).head? = (fromL key a).head?
  | [], _, ⟨_, h, _⟩ => by cases h
  | x :: a, b, h => by
    rw [List.cons_append, fromL_cons, fromL_cons]
    by_cases hx : ltL x.1 key = true
    · rw [if_pos hx, if_pos hx]
      obtain ⟨y, hy, hf⟩ := h
      rcases List.mem_cons.1 hy with rfl | hy
      · rw [hx] at hf; cases hf
      · exact fromL_in b ⟨y, hy, hf⟩
    · rw [if_neg hx, if_neg hx]; rfl
theorem find_parts {lx : Tx} {key : Bs} {lev : Nat} : ∀ L : List (List It), (∀ q ∈ L, q ≠ [] ∧ belowP lx (lev + 1) (upI lev q) = some q) → Asc2 L.flatten → findG lx key (lev + 1) (L.map (upI lev)) = findG lx key lev L.flatten
  | [], _, _ => by cases lev <;> rfl
  | q :: L, h, ha => by
    obtain ⟨hne, hb⟩ := h q List.mem_cons_self
    have hlp := List.length_pos_iff.2 hne
    have hlast : itD q (q.length - 1) ∈ q := itD_mem (l := q) (i := q.length - 1) (by omega)
    rw [List.flatten_cons] at ha ⊢
    have haq : Asc2 q := (List.pairwise_append.1 ha).1
    have hal : Asc2 L.flatten := (List.pairwise_append.1 ha).2.1
    have ih := find_parts (lx := lx) (key := key) (lev := lev) L (fun p hp => h p (List.mem_cons_of_mem _ hp)) hal
    by_cases hx : ltL (itD q (q.length - 1)).1 key = true
    · have hall : ∀ x ∈ q, ltL x.1 key = true := fun x hxq => by
        obtain ⟨i, hi, rfl⟩ := List.getElem_of_mem hxq
        rw [← itD_at hi]
        by_cases e : i = q.length - 1
        · rw [e]; exact hx
        · exact ltL_trans (asc_at haq (i := i) (j := q.length - 1) (by omega) (by omega)) hx
      have e1 : findG lx key lev (q ++ L.flatten) = findG lx key lev L.flatten := findG_head (by rw [fromL_lt _ hall])
      have e2 : findG lx key (lev + 1) ((q :: L).map (upI lev)) = findG lx key (lev + 1) (L.map (upI lev)) := findG_head (by
        rw [List.map_cons, fromL_cons, if_pos (show ltL (upI lev q).1 key = true from hx)])
      rw [e1, e2, ih]
    · have e1 : findG lx key lev (q ++ L.flatten) = findG lx key lev q := findG_head (fromL_in _ ⟨_, hlast, by simpa using hx⟩)
      rw [e1, List.map_cons]
      show (match fromL key (upI lev q :: L.map (upI lev)) with | [] => some none | x :: _ => (belowP lx (lev + 1) x).bind (findG lx key lev)) = _
      rw [fromL_cons, if_neg (show ¬ ltL (upI lev q).1 key = true from hx)]
      dsimp only
      rw [hb, Option.bind_some]
theorem find_up {lx : Tx} {key : Bs} {lev : Nat} {m : List It} (hv : lev ≤ 32) (h : LvS lev m) (hm : mapOk m = true) (hf : ∀ q ∈ partsOf m, at_ lx (sha (nodeL lev q)) = some (nodeL lev q)) : findG lx key (lev + 1) (upsL lev m) = findG lx key lev m := by
  have h1 := find_parts (lx := lx) (key := key) (lev := lev) (partsOf m) (fun q hq => ⟨part_ne hq, below_found hv h hm hq (hf q hq)⟩) (by rw [partsOf_flat]; exact ((mapOk_iff m).1 hm).2)
  rw [partsOf_flat] at h1
  exact h1
theorem tree_finds (lx : Tx) (key : Bs) (o : Option (Option Bs)) : ∀ (f lev : Nat) (m : List It) (acc : List Bs), m.length ≤ f → lev ≤ 9 → (m.length - 1) * 2 ^ lev ≤ 1000 → LvS lev m → mapOk m = true → findG lx key lev m = o →
    (∀ t ∈ (treeG f lev m acc).2, at_ lx (sha t) = some t) → findP lx (treeG f lev m acc).1 key = o := by
  intro f
  induction f with
  | zero => intro lev m acc hf _ _ h; have := h.pos; omega
  | succ f ih =>
    intro lev m acc hf hv hh h hm hy hn
    have hp := h.pos
    unfold treeG at hn ⊢
    by_cases h1 : (upsL lev m).length = 1
    · rw [if_pos h1] at hn ⊢
      have hl1 : (partsOf m).length = 1 := by rw [← upsL_len lev m]; exact h1
      have hpf := partsOf_flat m
      obtain ⟨q, hq⟩ : ∃ q, partsOf m = [q] := List.length_eq_one_iff.1 hl1
      rw [hq] at hpf
      have e : q = m := by simpa using hpf
      subst e
      have hmem : q ∈ partsOf q := by rw [hq]; simp
      have hfd := hn (nodeL lev q) (List.mem_append_right _ (by unfold levelL; exact List.mem_map.2 ⟨q, hmem, rfl⟩))
      have hu : itD (upsL lev q) 0 = upI lev q := by unfold upsL; rw [hq]; rfl
      show findP lx (prn (itD (upsL lev q) 0)) key = o
      unfold findP
      rw [hu, node_found (by omega) h hm hmem hfd, Option.bind_some]
      exact hy
    · rw [if_neg h1] at hn ⊢
      have hu := h.up
      have huh := ups_half lev m
      have hpos := hu.pos
      have hhalf : ((upsL lev m).length - 1) * 2 ^ (lev + 1) ≤ 1000 := by
        have e1 : ((upsL lev m).length - 1) * 2 ≤ m.length - 1 := by omega
        have e2 := Nat.mul_le_mul_right (2 ^ lev) e1
        rw [Nat.pow_succ, Nat.mul_comm (2 ^ lev) 2, ← Nat.mul_assoc]
        omega
      have hlo := two_pow_le (by omega) hhalf
      refine ih (lev + 1) (upsL lev m) _ (by omega) hlo hhalf hu (ups_ok hm) ?_ hn
      rw [find_up (by omega) h hm fun q hq => hn _ (tree_acc f (lev + 1) _ _ _ (List.mem_append_right _ (by unfold levelL; exact List.mem_map.2 ⟨q, hq, rfl⟩)))]
      exact hy
/-- In a map's tree, where no two unlike nodes have one fingerprint, a key is found just as in the map. -/
theorem build_finds {l : List It} (key : Bs) (hm : mapOk l = true) (hl : l.length ≤ 1000) (hs : szL l ≤ 40000) (hc : ¬ ClashL (buildL l).2) : findP (putAll [] (buildL l).2) (buildL l).1 key = some (lookL key l) := by
  have hf : ∀ t ∈ (buildL l).2, at_ (putAll [] (buildL l).2) (sha t) = some t := fun t ht => at_mem hc ht
  unfold buildL at hf ⊢
  rw [if_pos hm] at hf ⊢
  by_cases h0 : l = []
  · subst h0
    have e : treeL [] = (sha (nodeL 0 []), [nodeL 0 []]) := rfl
    rw [e] at hf ⊢
    have h1 := hf (nodeL 0 []) (by simp)
    have h2 : rootP (putAll [] [nodeL 0 []]) (sha (nodeL 0 [])) = some (0, []) := by
      unfold rootP
      dsimp only at h1
      rw [h1, Option.bind_some]
      exact parse_node (by omega) (by simp) rfl
    unfold findP
    dsimp only
    rw [h2]
    rfl
  · unfold treeL at hf ⊢
    rw [if_neg h0] at hf ⊢
    have hpos := List.length_pos_iff.2 h0
    exact tree_finds _ key _ l.length 0 l [] (Nat.le_refl _) (by omega) (by rw [Nat.pow_zero]; omega) (LvS.base hl hpos hm hs) hm rfl hf
end Go.Proofs.YtfjlkphpeneahaaDoor
namespace Go.Proofs.YtfjlkphpeneahaaDoor
open Go Go.RowKit

/-- A pair laid where its key stands, if that isn't there. -/
def insR (x : It) : List It → List It
  | [] => [x]
  | y :: r => if ltL y.1 x.1 = true then y :: insR x r else if y.1 = x.1 then y :: r else x :: y :: r
theorem fromL_le (k : Bs) : ∀ r : List It, (fromL k r).length ≤ r.length
  | [] => Nat.le_refl _
  | y :: r => by
    rw [fromL_cons]
    split
    · have := fromL_le k r; rw [List.length_cons]; omega
    · exact Nat.le_refl _
theorem posL_cons (k : Bs) (y : It) (r : List It) : posL k (y :: r) = if ltL y.1 k = true then posL k r + 1 else 0 := by
  unfold posL
  rw [fromL_cons]
  have := fromL_le k r
  split
  · rw [List.length_cons]; omega
  · simp
theorem insL_eq (x : It) : ∀ out : List It, insL out x = insR x out
  | [] => by
    unfold insL insR
    rw [if_neg (fun h => by simpa using h.1)]
    rfl
  | y :: r => by
    have ih := insL_eq x r
    unfold insL at ih ⊢
    rw [posL_cons]
    unfold insR
    by_cases h : ltL y.1 x.1 = true
    · rw [if_pos h, if_pos h, ← ih]
      have e1 : itD (y :: r) (posL x.1 r + 1) = itD r (posL x.1 r) := rfl
      rw [e1, List.length_cons]
      by_cases h2 : posL x.1 r < r.length ∧ (itD r (posL x.1 r)).1 = x.1
      · rw [if_pos h2, if_pos ⟨by omega, h2.2⟩]
      · rw [if_neg h2, if_neg (fun h3 => h2 ⟨by omega, h3.2⟩)]
        rfl
    · rw [if_neg h, if_neg h]
      have e1 : itD (y :: r) 0 = y := rfl
      rw [e1]
      by_cases h2 : y.1 = x.1
      · rw [if_pos h2, if_pos ⟨by simp, h2⟩]
      · rw [if_neg h2, if_neg (fun h3 => h2 h3.2)]
        rfl
theorem insR_mem {x z : It} : ∀ {out : List It}, z ∈ insR x out → z = x ∨ z ∈ out
  | [], h => .inl (List.mem_singleton.1 h)
  | y :: r, h => by
    unfold insR at h
    split at h
    · rcases List.mem_cons.1 h with rfl | h
      · exact .inr List.mem_cons_self
      · exact (insR_mem h).imp id (List.mem_cons_of_mem _)
    · split at h
      · exact .inr h
      · exact (List.mem_cons.1 h)
theorem ltL_tot : ∀ {a b : Bs}, ltL a b ≠ true → a ≠ b → ltL b a = true
  | [], [], _, h => absurd rfl h
  | [], _ :: _, h, _ => absurd rfl h
  | _ :: _, [], _, _ => rfl
  | x :: a, y :: b, h1, h2 => by
    rw [ltL_eq] at h1 ⊢
    have h1' : ¬ (x :: a < y :: b) := fun h => h1 (decide_eq_true h)
    rw [List.cons_lt_cons_iff] at h1'
    refine decide_eq_true ?_
    rw [List.cons_lt_cons_iff]
    by_cases h : y < x
    · exact .inl h
    · have e : y = x := by
        have n1 : ¬ x < y := fun hh => h1' (.inl hh)
        rw [UInt8.lt_iff_toNat_lt] at h n1
        exact UInt8.toNat_inj.1 (by omega)
      subst e
      refine .inr ⟨rfl, ?_⟩
      have h3 : ltL a b ≠ true := by
        rw [ltL_eq]
        intro hh
        exact h1' (.inr ⟨rfl, of_decide_eq_true hh⟩)
      have := ltL_tot h3 (fun e => h2 (by rw [e]))
      rw [ltL_eq] at this
      exact of_decide_eq_true this
theorem insR_asc {x : It} : ∀ {out : List It}, Asc2 out → Asc2 (insR x out)
  | [], _ => List.pairwise_singleton _ _
  | y :: r, h => by
    have h1 := List.pairwise_cons.1 h
    unfold insR
    by_cases hl : ltL y.1 x.1 = true
    · rw [if_pos hl]
      refine List.pairwise_cons.2 ⟨fun z hz => ?_, insR_asc h1.2⟩
      rcases insR_mem hz with rfl | hz
      · exact hl
      · exact h1.1 z hz
    · rw [if_neg hl]
      by_cases he : y.1 = x.1
      · rw [if_pos he]; exact h
      · rw [if_neg he]
        have hxy := ltL_tot hl he
        refine List.pairwise_cons.2 ⟨fun z hz => ?_, h⟩
        rcases List.mem_cons.1 hz with rfl | hz
        · exact hxy
        · exact ltL_trans hxy (h1.1 z hz)
theorem ris_asc : ∀ (l out : List It), Asc2 out → Asc2 (l.foldl insL out)
  | [], _, h => h
  | x :: l, out, h => ris_asc l (insL out x) (by rw [insL_eq]; exact insR_asc h)
theorem ris_mem : ∀ (l out : List It), ∀ z ∈ l.foldl insL out, z ∈ l ∨ z ∈ out
  | [], _, z, h => .inr h
  | x :: l, out, z, h => by
    rcases ris_mem l (insL out x) z h with h | h
    · exact .inl (List.mem_cons_of_mem _ h)
    · rw [insL_eq] at h
      rcases insR_mem h with rfl | h
      · exact .inl List.mem_cons_self
      · exact .inr h
theorem ris_map {l : List It} (h : Few l) : mapOk (risL l) = true := by
  rw [mapOk_iff]
  refine ⟨fun x hx => ?_, ris_asc l [] List.Pairwise.nil⟩
  rcases ris_mem l [] x hx with h1 | h1
  · exact h.2.2 x h1
  · cases h1
theorem ins_szR (x : It) : ∀ out : List It, szL (insR x out) ≤ szL out + (x.1.length + x.2.length)
  | [] => by unfold insR szL; simp
  | y :: r => by
    have ih := ins_szR x r
    unfold insR
    unfold szL at ih ⊢
    split
    · simp only [List.map_cons, List.sum_cons] at ih ⊢; omega
    · split
      · omega
      · simp only [List.map_cons, List.sum_cons] at ih ⊢; omega
theorem ris_szR : ∀ (l out : List It), szL (l.foldl insL out) ≤ szL out + szL l
  | [], out => by simp [szL]
  | x :: l, out => by
    have h1 := ris_szR l (insL out x)
    have h2 := ins_szR x out
    rw [← insL_eq] at h2
    have h3 : szL (x :: l) = (x.1.length + x.2.length) + szL l := rfl
    rw [List.foldl_cons]; omega
theorem ris_lim {l : List It} (h1 : l.length ≤ 201) (h2 : szL l ≤ 30000) : (risL l).length ≤ 201 ∧ szL (risL l) ≤ 30000 := by
  have h3 := ins_len l []
  have h4 := ris_szR l []
  have h5 : szL [] = 0 := rfl
  unfold risL
  simp only [List.length_nil] at h3
  omega
theorem ris_few2 {l : List It} (h : Few l) : (risL l).length ≤ 1000 ∧ szL (risL l) ≤ 40000 := by
  have h1 := ris_lim (l := l) (by have := h.1; omega) (by have := h.2.1; omega)
  omega
/-- A map's tree in a heap that has all its nodes yields the map. -/
theorem build_yields2 {lx : Tx} {l : List It} (hm : mapOk l = true) (hl : l.length ≤ 1000) (hs : szL l ≤ 40000) (hf : ∀ t ∈ (buildL l).2, at_ lx (sha t) = some t) : (leavesP lx (buildL l).1 []).flatten = l := by
  unfold buildL at hf ⊢
  rw [if_pos hm] at hf ⊢
  by_cases h0 : l = []
  · subst h0
    have e : treeL [] = (sha (nodeL 0 []), [nodeL 0 []]) := rfl
    rw [e] at hf ⊢
    have h1 := hf (nodeL 0 []) (by simp)
    refine yields_leaves (k := 0) (q := []) ?_ (.inl ⟨rfl, rfl⟩)
    unfold rootP
    dsimp only at h1 ⊢
    rw [h1, Option.bind_some]
    exact parse_node (by omega) (by simp) rfl
  · unfold treeL at hf ⊢
    rw [if_neg h0] at hf ⊢
    have hpos := List.length_pos_iff.2 h0
    obtain ⟨k, q, h1, _, _, h2⟩ := tree_yields _ l l.length 0 l [] (Nat.le_refl _) (by omega) (by rw [Nat.pow_zero]; omega) (LvS.base hl hpos hm hs) hm (.inl ⟨rfl, rfl⟩) hf
    exact yields_leaves h1 h2
/-- Two maps of one root, without a clash, are one. -/
theorem one_map {l m : List It} (h1 : mapOk l = true) (h2 : mapOk m = true) (hl : l.length ≤ 1000 ∧ szL l ≤ 40000) (hm : m.length ≤ 1000 ∧ szL m ≤ 40000) (hc : ¬ ClashL ((buildL l).2 ++ (buildL m).2)) (he : (buildL l).1 = (buildL m).1) : l = m := by
  have e1 := build_yields2 (lx := putAll [] ((buildL l).2 ++ (buildL m).2)) h1 hl.1 hl.2 fun t ht => at_mem hc (List.mem_append_left _ ht)
  have e2 := build_yields2 (lx := putAll [] ((buildL l).2 ++ (buildL m).2)) h2 hm.1 hm.2 fun t ht => at_mem hc (List.mem_append_right _ ht)
  rw [he] at e1
  exact e1.symm.trans e2
/-- No node of a map's tree is too long. -/
theorem tree_small : ∀ (f lev : Nat) (m : List It) (acc : List Bs), m.length ≤ f → lev ≤ 9 → (m.length - 1) * 2 ^ lev ≤ 1000 → LvS lev m → (∀ t ∈ acc, t.length ≤ 100000) → ∀ t ∈ (treeG f lev m acc).2, t.length ≤ 100000 := by
  intro f
  induction f with
  | zero => intro lev m acc hf _ _ h; have := h.pos; omega
  | succ f ih =>
    intro lev m acc hf hv hh h ha
    have hp := h.pos
    have hlv : ∀ t ∈ acc ++ levelL lev m, t.length ≤ 100000 := fun t ht => by
      rcases List.mem_append.1 ht with ht | ht
      · exact ha t ht
      · unfold levelL at ht
        obtain ⟨q, hq, rfl⟩ := List.mem_map.1 ht
        exact (h.node hq).1
    unfold treeG
    by_cases h1 : (upsL lev m).length = 1
    · rw [if_pos h1]
      exact hlv
    · rw [if_neg h1]
      have hu := h.up
      have huh := ups_half lev m
      have hpos := hu.pos
      have hhalf : ((upsL lev m).length - 1) * 2 ^ (lev + 1) ≤ 1000 := by
        have e1 : ((upsL lev m).length - 1) * 2 ≤ m.length - 1 := by omega
        have e2 := Nat.mul_le_mul_right (2 ^ lev) e1
        rw [Nat.pow_succ, Nat.mul_comm (2 ^ lev) 2, ← Nat.mul_assoc]
        omega
      exact ih (lev + 1) (upsL lev m) _ (by omega) (two_pow_le (by omega) hhalf) hhalf hu hlv
theorem tree_count : ∀ (f lev : Nat) (m : List It) (acc : List Bs), m.length ≤ f → 1 ≤ m.length → (treeG f lev m acc).2.length ≤ acc.length + 2 * m.length := by
  intro f
  induction f with
  | zero => intro lev m acc h1 h2; omega
  | succ f ih =>
    intro lev m acc h1 h2
    have hu := ups_half lev m
    have hll : (levelL lev m).length = (upsL lev m).length := by unfold levelL; rw [List.length_map, upsL_len]
    have hup := ups_pos (lev := lev) (l := m) (by omega)
    unfold treeG
    split
    · rw [List.length_append, hll]; omega
    · rename_i hne
      have := ih (lev + 1) (upsL lev m) (acc ++ levelL lev m) (by omega) (by omega)
      rw [List.length_append, hll] at this
      omega
theorem build_small {m : List It} (hm : mapOk m = true) (hl : m.length ≤ 1000) (hs : szL m ≤ 40000) : (∀ t ∈ (buildL m).2, t.length ≤ 100000) ∧ (buildL m).2.length ≤ 2 * m.length + 1 ∧ (buildL m).1.length ≤ 32 := by
  unfold buildL
  rw [if_pos hm]
  by_cases h0 : m = []
  · subst h0
    have e : treeL [] = (sha (nodeL 0 []), [nodeL 0 []]) := rfl
    rw [e]
    refine ⟨fun t ht => ?_, by simp, Nat.le_of_eq (sha_len _)⟩
    rw [List.mem_singleton.1 ht]; decide
  · unfold treeL
    rw [if_neg h0]
    have hpos := List.length_pos_iff.2 h0
    refine ⟨tree_small m.length 0 m [] (Nat.le_refl _) (by omega) (by rw [Nat.pow_zero]; omega) (LvS.base hl hpos hm hs) (fun t ht => by cases ht), ?_, ?_⟩
    · have := tree_count m.length 0 m [] (Nat.le_refl _) (by omega)
      simp only [List.length_nil] at this
      omega
    · have key : ∀ (f lev : Nat) (k : List It) (acc : List Bs), (treeG f lev k acc).1.length ≤ 32 := by
        intro f
        induction f with
        | zero => intro lev k acc; unfold treeG; simp
        | succ f ih =>
          intro lev k acc
          unfold treeG
          split
          · dsimp only; unfold prn; rw [List.length_take]; omega
          · exact ih _ _ _
      exact key _ _ _ _
end Go.Proofs.YtfjlkphpeneahaaDoor
