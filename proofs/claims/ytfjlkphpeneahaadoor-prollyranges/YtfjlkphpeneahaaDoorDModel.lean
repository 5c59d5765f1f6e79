/- Lists of names and what they name, rising: what stands at a name, put, struck; and how a map reads as one. -/
import Derived.Test.YtfjlkphpeneahaaDoorBase
import Derived.Maps.OwnSet
import Derived.Sort.KeysCollected
namespace Go.Proofs.YtfjlkphpeneahaaDoor.D4
open Go Go.RowKit

section
variable {α β : Type}
/-- What stands at a name. -/
def look (n : List UInt8) : List (List UInt8 × α) → Option α
  | [] => none
  | p :: r => if p.1 = n then some p.2 else look n r
/-- Put, in its place or in the place of one of its name. -/
def put (n : List UInt8) (a : α) : List (List UInt8 × α) → List (List UInt8 × α)
  | [] => [(n, a)]
  | p :: r => if p.1 = n then (n, a) :: r else if bytesBefore n p.1 then (n, a) :: p :: r else p :: put n a r
/-- Struck. -/
def del (n : List UInt8) (l : List (List UInt8 × α)) : List (List UInt8 × α) := l.filter fun p => !(p.1 == n)
/-- It rises. -/
def Asc (l : List (List UInt8 × α)) : Prop := l.Pairwise fun p q => bytesBefore p.1 q.1 = true

theorem before_ne {a b : List UInt8} (h : bytesBefore a b = true) : a ≠ b := fun e => by
  rw [e, WideAt.bytes_irrefl] at h; cases h
theorem before_asymm {a b : List UInt8} (h : bytesBefore a b = true) : bytesBefore b a = false := by
  cases hb : bytesBefore b a with
  | false => rfl
  | true => have := WideShapes.bytes_trans _ _ _ h hb; rw [WideAt.bytes_irrefl] at this; cases this
theorem before_of {a b : List UInt8} (h : a ≠ b) (k : bytesBefore b a = false) : bytesBefore a b = true := by
  rcases WideAt.bytes_total a b h with h | h
  · exact h
  · rw [k] at h; cases h
theorem Asc.nil : Asc ([] : List (List UInt8 × α)) := List.Pairwise.nil
theorem Asc.tail {p : List UInt8 × α} {l : List (List UInt8 × α)} (h : Asc (p :: l)) : Asc l := (List.pairwise_cons.1 h).2
theorem Asc.head {p : List UInt8 × α} {l : List (List UInt8 × α)} (h : Asc (p :: l)) : ∀ q ∈ l, bytesBefore p.1 q.1 = true := (List.pairwise_cons.1 h).1

theorem look_mem {n : List UInt8} {a : α} : ∀ {l : List (List UInt8 × α)}, look n l = some a → (n, a) ∈ l
  | [], h => by cases h
  | p :: r, h => by
    unfold look at h
    split at h
    · rename_i e; cases h; exact List.mem_cons.2 (.inl (by rw [← e]))
    · exact List.mem_cons_of_mem _ (look_mem h)
theorem look_none {n : List UInt8} : ∀ {l : List (List UInt8 × α)}, look n l = none → ∀ q ∈ l, q.1 ≠ n
  | [], _, _, hq => by cases hq
  | p :: r, h, q, hq => by
    unfold look at h
    split at h
    · cases h
    · rename_i e
      rcases List.mem_cons.1 hq with rfl | hq
      · exact e
      · exact look_none h q hq
theorem look_of_none {n : List UInt8} : ∀ {l : List (List UInt8 × α)}, (∀ q ∈ l, q.1 ≠ n) → look n l = none
  | [], _ => rfl
  | p :: r, h => by
    unfold look
    rw [if_neg (h p (by simp))]
    exact look_of_none fun q hq => h q (by simp [hq])
theorem look_of_mem {n : List UInt8} {a : α} : ∀ {l : List (List UInt8 × α)}, Asc l → (n, a) ∈ l → look n l = some a
  | p :: r, ha, h => by
    unfold look
    rcases List.mem_cons.1 h with e | h
    · rw [← e, if_pos rfl]
    · rw [if_neg (before_ne (ha.head _ h)), look_of_mem ha.tail h]
theorem mem_put {n : List UInt8} {a : α} {q : List UInt8 × α} : ∀ {l : List (List UInt8 × α)}, q ∈ put n a l → q = (n, a) ∨ q ∈ l
  | [], h => by simpa [put] using h
  | p :: r, h => by
    unfold put at h
    split at h
    · rcases List.mem_cons.1 h with h | h
      · exact .inl h
      · exact .inr (List.mem_cons_of_mem _ h)
    · split at h
      · rcases List.mem_cons.1 h with h | h
        · exact .inl h
        · exact .inr h
      · rcases List.mem_cons.1 h with h | h
        · exact .inr (h ▸ List.mem_cons_self)
        · rcases mem_put h with h | h
          · exact .inl h
          · exact .inr (List.mem_cons_of_mem _ h)
theorem put_asc {n : List UInt8} {a : α} : ∀ {l : List (List UInt8 × α)}, Asc l → Asc (put n a l)
  | [], _ => by simp [put, Asc]
  | p :: r, h => by
    unfold put
    split
    · rename_i e
      exact List.pairwise_cons.2 ⟨fun q hq => by have := h.head q hq; rwa [e] at this, h.tail⟩
    · rename_i hne
      split
      · rename_i hb
        refine List.pairwise_cons.2 ⟨fun q hq => ?_, h⟩
        rcases List.mem_cons.1 hq with rfl | hq
        · exact hb
        · exact WideShapes.bytes_trans _ _ _ hb (h.head q hq)
      · rename_i hb
        have hb : bytesBefore n p.1 = false := by simpa using hb
        refine List.pairwise_cons.2 ⟨fun q hq => ?_, put_asc h.tail⟩
        rcases mem_put hq with rfl | hq
        · exact before_of hne hb
        · exact h.head q hq
theorem del_asc {n : List UInt8} {l : List (List UInt8 × α)} (h : Asc l) : Asc (del n l) := List.Pairwise.sublist List.filter_sublist h
theorem mem_del {n : List UInt8} {l : List (List UInt8 × α)} {q : List UInt8 × α} : q ∈ del n l ↔ q ∈ l ∧ q.1 ≠ n := by
  unfold del; simp
theorem look_put (n m : List UInt8) (a : α) : ∀ (l : List (List UInt8 × α)), Asc l → look m (put n a l) = if n = m then some a else look m l
  | [], _ => by unfold put look; rfl
  | p :: r, h => by
    unfold put
    split
    · rename_i e
      by_cases hm : n = m
      · simp [look, hm]
      · rw [if_neg hm]
        simp only [look]
        rw [if_neg hm, if_neg (by rw [e]; exact hm)]
    · rename_i hne
      split
      · by_cases hm : n = m
        · simp [look, hm]
        · rw [if_neg hm]; rw [look, if_neg hm]
      · rw [look, look_put n m a r h.tail]
        by_cases hm : n = m
        · subst hm; rw [if_neg hne, if_pos rfl, if_pos rfl]
        · rw [if_neg hm, if_neg hm, look]
theorem look_del (n m : List UInt8) : ∀ (l : List (List UInt8 × α)), look m (del n l) = if n = m then none else look m l
  | [] => by simp [del, look]
  | p :: r => by
    have ih := look_del n m r
    unfold del at ih ⊢
    by_cases hp : p.1 = n
    · rw [List.filter_cons_of_neg (by simp [hp]), ih, look]
      by_cases hm : n = m
      · rw [if_pos hm, if_pos hm]
      · rw [if_neg hm, if_neg hm, if_neg (by rw [hp]; exact hm)]
    · rw [List.filter_cons_of_pos (by simp [hp]), look, look, ih]
      by_cases hm : n = m
      · rw [if_pos hm, if_pos hm, if_neg (by rw [← hm]; exact hp)]
      · rw [if_neg hm, if_neg hm]
/-- Each of what it names turned. -/
def on (f : α → β) (l : List (List UInt8 × α)) : List (List UInt8 × β) := l.map fun p => (p.1, f p.2)
theorem look_on (f : α → β) (n : List UInt8) : ∀ l : List (List UInt8 × α), look n (on f l) = (look n l).map f
  | [] => rfl
  | p :: r => by
    have ih := look_on f n r
    unfold on at ih ⊢
    simp only [List.map_cons, look]
    split
    · rfl
    · exact ih
theorem put_on (f : α → β) (n : List UInt8) (a : α) : ∀ l : List (List UInt8 × α), on f (put n a l) = put n (f a) (on f l)
  | [] => rfl
  | p :: r => by
    have ih := put_on f n a r
    unfold on at ih ⊢
    simp only [List.map_cons, put]
    split
    · rfl
    · split
      · rfl
      · simp only [List.map_cons, ih]
theorem del_on (f : α → β) (n : List UInt8) (l : List (List UInt8 × α)) : on f (del n l) = del n (on f l) := by
  unfold on del; rw [List.filter_map]; rfl
theorem on_asc (f : α → β) {l : List (List UInt8 × α)} (h : Asc l) : Asc (on f l) := List.pairwise_map.2 h
theorem on_length (f : α → β) (l : List (List UInt8 × α)) : (on f l).length = l.length := by simp [on]
/-- Two that rise and have the same at each name are one. -/
theorem asc_ext : ∀ {l m : List (List UInt8 × α)}, Asc l → Asc m → (∀ n, look n l = look n m) → l = m
  | [], [], _, _, _ => rfl
  | [], q :: s, _, _, h => by have := h q.1; simp [look] at this
  | p :: r, [], _, _, h => by have := h p.1; simp [look] at this
  | p :: r, q :: s, hl, hm, h => by
    have e : p.1 = q.1 := by
      have h1 : look p.1 (q :: s) = some p.2 := by rw [← h p.1]; simp [look]
      have h2 : look q.1 (p :: r) = some q.2 := by rw [h q.1]; simp [look]
      rcases List.mem_cons.1 (look_mem h1) with e | e
      · rw [← e]
      · rcases List.mem_cons.1 (look_mem h2) with e' | e'
        · rw [← e']
        · have := hm.head _ e
          have k := hl.head _ e'
          rw [before_asymm this] at k; cases k
    have e2 : p.2 = q.2 := by
      have := h p.1
      rw [look, if_pos rfl, look, if_pos e.symm] at this
      exact Option.some.inj this
    have e3 : p = q := Prod.ext e e2
    subst e3
    rw [asc_ext hl.tail hm.tail fun n => ?_]
    have := h n
    by_cases hn : p.1 = n
    · subst hn
      rw [look_of_none fun q hq => (before_ne (hl.head q hq)).symm, look_of_none fun q hq => (before_ne (hm.head q hq)).symm]
    · rw [look, look, if_neg hn, if_neg hn] at this
      exact this
end

/-- A map's elements: where a pointer leads. -/
def rdP : Value → Option (DataW Nat × List MemPlace)
  | .pointer none => some (.nil, [])
  | .pointer (some ⟨b, 0, none⟩) => some (.held b, [])
  | _ => none
theorem rdP_nil : rdP (.pointer none) = some (.nil, []) := rfl
theorem rdP_some (b : Nat) : rdP (.pointer (some ⟨b, 0, none⟩)) = some (.held b, []) := rfl
theorem rdP_inv {v : Value} {b : Nat} {ps : List MemPlace} (h : rdP v = some (.held b, ps)) : v = .pointer (some ⟨b, 0, none⟩) := by
  unfold rdP at h
  split at h
  · simp at h
  · simp at h; rw [h.1]
  · cases h
theorem rdP_inv0 {v : Value} {ps : List MemPlace} (h : rdP v = some (.nil, ps)) : v = .pointer none := by
  unfold rdP at h
  split at h
  · rfl
  · simp at h
  · cases h
/-- What a map of pointers reads as. -/
def ent (p : List UInt8 × Nat) : Lit × DataW Nat := (.string p.1, .held p.2)
def dat (l : List (List UInt8 × Nat)) : DataW Nat := .map (l.map ent)
theorem insert_low (x : Lit × DataW Nat) : ∀ l : List (Lit × DataW Nat), (∀ p ∈ l, x.1.before p.1 = true) → DataW.insert x l = x :: l
  | [], _ => rfl
  | y :: r, h => by rw [DataW.insert, if_pos (h y (by simp))]
theorem filter_same (n : List UInt8) (l : List (List UInt8 × Nat)) (h : ∀ q ∈ l, q.1 ≠ n) : (l.map ent).filter (fun p => !p.1.sameKey (.string n)) = l.map ent := by
  refine List.filter_eq_self.2 fun p hp => ?_
  obtain ⟨q, hq, rfl⟩ := List.mem_map.1 hp
  simp [ent, Lit.sameKey, h q hq]
theorem dat_put_aux (n : List UInt8) (b : Nat) : ∀ l : List (List UInt8 × Nat), Asc l → DataW.insert (ent (n, b)) ((l.map ent).filter fun p => !p.1.sameKey (.string n)) = (put n b l).map ent
  | [], _ => rfl
  | p :: r, h => by
    by_cases e : p.1 = n
    · rw [List.map_cons, List.filter_cons_of_neg (by simp [ent, Lit.sameKey, e]), filter_same n r (fun q hq => by rw [← e]; exact (before_ne (h.head q hq)).symm), insert_low]
      · rw [put, if_pos e, List.map_cons]
      · intro q hq
        obtain ⟨q', hq', rfl⟩ := List.mem_map.1 hq
        have := h.head q' hq'
        rw [e] at this
        exact this
    · rw [List.map_cons, List.filter_cons_of_pos (by simp [ent, Lit.sameKey, e]), DataW.insert, put, if_neg e]
      have eb : Lit.before (ent (n, b)).1 (ent p).1 = bytesBefore n p.1 := rfl
      rw [eb]
      by_cases hb : bytesBefore n p.1 = true
      · rw [if_pos hb, if_pos hb, filter_same n r (fun q hq => ?_)]
        · rfl
        · exact (before_ne (WideShapes.bytes_trans _ _ _ hb (h.head q hq))).symm
      · rw [if_neg hb, if_neg hb, dat_put_aux n b r h.tail, List.map_cons]
theorem dat_put {l : List (List UInt8 × Nat)} (h : Asc l) (n : List UInt8) (b : Nat) : (dat l).put (.string n) (.held b) = dat (put n b l) := by
  show DataW.map (DataW.insert (ent (n, b)) ((l.map ent).filter fun p => !p.1.sameKey (.string n))) = _
  rw [dat_put_aux n b l h]; rfl
theorem dat_del (l : List (List UInt8 × Nat)) (n : List UInt8) : (dat l).del (.string n) = dat (del n l) := by
  show DataW.map ((l.map ent).filter fun p => !p.1.sameKey (.string n)) = _
  unfold dat del
  rw [List.filter_map]
  rfl
theorem dat_at (n : List UInt8) : ∀ l : List (List UInt8 × Nat), (dat l).atKey (.string n) .nil = match look n l with | some b => .held b | none => .nil
  | [] => rfl
  | p :: r => by
    have ih := dat_at n r
    unfold dat DataW.atKey at ih ⊢
    by_cases e : p.1 = n
    · simp [look, ent, Lit.sameKey, e]
    · simp only [look, if_neg e]
      rw [← ih]
      simp [ent, Lit.sameKey, e]
theorem dat_has (n : List UInt8) : ∀ l : List (List UInt8 × Nat), Maps.has (dat l) (.string n) = (look n l).isSome
  | [] => rfl
  | p :: r => by
    have ih := dat_has n r
    unfold dat at ih ⊢
    rw [Maps.has_eq] at ih ⊢
    by_cases e : p.1 = n
    · simp [look, ent, Lit.sameKey, e]
    · simp only [look, if_neg e]
      rw [← ih]
      simp [ent, Lit.sameKey, e]
theorem dat_size (l : List (List UInt8 × Nat)) : Maps.size (dat l) = l.length := by unfold dat; rw [Maps.size_eq]; simp
theorem dat_keys (l : List (List UInt8 × Nat)) : strKeys (dat l) = l.map (·.1) := by
  unfold dat strKeys
  simp [ent, strOf, Function.comp_def]
theorem le_of_before : ∀ {a b : List UInt8}, bytesBefore a b = true → a ≤ b
  | [], _, _ => List.nil_le _
  | x :: a, [], h => by simp [bytesBefore] at h
  | x :: a, y :: b, h => by
    simp only [bytesBefore, Bool.or_eq_true, decide_eq_true_eq, Bool.and_eq_true, beq_iff_eq] at h
    rcases h with h | ⟨rfl, h⟩
    · exact List.le_of_lt (List.cons_lt_cons_iff.2 (.inl h))
    · exact List.cons_le_cons_iff.2 (.inr ⟨rfl, le_of_before h⟩)
/-- What is sorted of the names of one that rises is its names. -/
theorem sorted_names {α : Type} {l : List (List UInt8 × α)} (h : Asc l) {ss : List (List UInt8)} (hp : ss.Perm (l.map (·.1))) : ss.mergeSort (fun x y => decide (x ≤ y)) = l.map (·.1) := by
  have tr : ∀ a b c : List UInt8, leB a b = true → leB b c = true → leB a c = true := fun a b c h1 h2 => by simp only [leB, decide_eq_true_eq] at *; exact List.le_trans h1 h2
  have to : ∀ a b : List UInt8, (leB a b || leB b a) = true := fun a b => by simp only [leB, Bool.or_eq_true, decide_eq_true_eq]; exact List.le_total a b
  refine List.Perm.eq_of_pairwise (le := fun a b => leB a b = true) (fun a b _ _ h1 h2 => ?_) (List.pairwise_mergeSort tr to ss) ?_ ((List.mergeSort_perm ss leB).trans hp)
  · simp only [leB, decide_eq_true_eq] at h1 h2
    exact List.le_antisymm h1 h2
  · refine List.pairwise_map.2 (h.imp fun {p q} hpq => ?_)
    simp only [leB, decide_eq_true_eq]
    exact le_of_before hpq
end Go.Proofs.YtfjlkphpeneahaaDoor.D4
