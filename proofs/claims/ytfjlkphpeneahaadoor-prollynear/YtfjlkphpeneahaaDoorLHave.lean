/- The law's map of texts that are had. -/
import Derived.Test.YtfjlkphpeneahaaDoorM5
namespace Go.Proofs.YtfjlkphpeneahaaDoor
open Go Go.RowKit Go.Maps
open D4 (put Asc)

def rdB : Value → Option (DataW Nat × List MemPlace)
  | .bool true => some (.lit (.string []), [])
  | .bool false => some (.lit (.string [0]), [])
  | _ => none
theorem rdB_true {v : Value} {ps : List MemPlace} (h : rdB v = some (.lit (.string []), ps)) : v = .bool true := by
  unfold rdB at h
  split at h
  · rfl
  · simp at h
  · cases h
theorem rdB_false {v : Value} {ps : List MemPlace} (h : rdB v = some (.lit (.string [0]), ps)) : v = .bool false := by
  unfold rdB at h
  split at h
  · simp at h
  · rfl
  · cases h
theorem zeroB (w : World) : (zeroValue 4).run Tryd.prog w = .ok (.bool false) w := Tryd.zeroValue4 w
theorem ownsB_tight {w : World} {b n : Nat} {D : DataW Nat} (h : w.ownsMap Tryd.prog 9 rdB b n D) : w.ownsMap Tryd.prog 9 rdB b (Maps.size D) D := by
  obtain ⟨es, clock, hb, F, hs, rfl⟩ := h
  exact ⟨es, clock, hb, F, by rw [Maps.size_eq, length_read]; exact Nat.le_refl _, rfl⟩
/-- The texts of a list, each with nothing beside it. -/
def haveL (xs : List Bs) : Tx := xs.foldl (fun k t => put t [] k) []
theorem haveL_take {xs : List Bs} {i : Nat} (h : i < xs.length) : haveL (xs.take (i + 1)) = put (xs.getD i []) [] (haveL (xs.take i)) := by
  unfold haveL
  rw [take_at h, List.foldl_append]; rfl
theorem have_all : ∀ (xs : List Bs) (l : Tx), Asc l → (∀ q ∈ l, q.2 = []) → Asc (xs.foldl (fun k t => put t [] k) l) ∧ (∀ q ∈ xs.foldl (fun k t => put t [] k) l, q.2 = []) ∧ (∀ t, t ∈ xs ∨ D4.look t l = some [] → D4.look t (xs.foldl (fun k t => put t [] k) l) = some [])
  | [], l, h1, h2 => ⟨h1, h2, fun t h => h.elim (fun h => by cases h) id⟩
  | x :: xs, l, h1, h2 => by
    obtain ⟨g1, g2, g3⟩ := have_all xs (put x [] l) (D4.put_asc h1) (fun q hq => by
      rcases D4.mem_put hq with rfl | hq
      · rfl
      · exact h2 q hq)
    refine ⟨g1, g2, fun t ht => g3 t ?_⟩
    rw [D4.look_put x t [] l h1]
    by_cases e : x = t
    · exact .inr (by rw [if_pos e])
    · rw [if_neg e]
      rcases ht with ht | ht
      · rcases List.mem_cons.1 ht with rfl | ht
        · exact absurd rfl e
        · exact .inl ht
      · exact .inr ht
theorem have_look {xs : List Bs} {t : Bs} (h : t ∈ xs) : D4.look t (haveL xs) = some [] := (have_all xs [] List.Pairwise.nil (fun q hq => by cases hq)).2.2 t (.inl h)
theorem have_len : ∀ (xs : List Bs) (l : Tx), (xs.foldl (fun k t => put t [] k) l).length ≤ l.length + xs.length
  | [], l => by simp
  | x :: xs, l => by
    have h1 := have_len xs (put x [] l)
    have h2 := put_len x [] l
    rw [List.foldl_cons, List.length_cons]; omega
/-- The law's map has these. -/
structure Had (w : World) (b : Nat) (l : Tx) : Prop where
  asc : Asc l
  map : w.ownsMap Tryd.prog 9 rdB b l.length (datT l)
theorem Had.new {w w' : World} {b : Nat} {l : Tx} (h : Had w b l) (hb : Below w.heap.size w w') : Had w' b l := by
  refine ⟨h.asc, ?_⟩
  have hlt := h.map.lt
  obtain ⟨es, clock, hbk, F, hs', hD⟩ := h.map
  exact ⟨es, clock, (hb.block b hlt).trans hbk, F, hs', hD⟩
theorem Had.look {w : World} {b : Nat} {l : Tx} (h : Had w b l) (n : Bs) (hn : n.length ≤ 1000000000) (ha : D4.look n l = some []) :
    (Instr.lookup 49 (.map (some b)) (.string (txt n)) false).run Tryd.prog w = .ok (.bool true) w := by
  obtain ⟨v, ps, hr, hv⟩ := h.map.lookup (string_keyed Tryd.underlying9) Tryd.underlying49 (zeroB w) (show rdB (.bool false) = some (.lit (.string [0]), []) from rfl) (D4.keyS (txt n) (by rw [txt_size]; omega))
  rw [hr]
  rw [datT_at, data_txt, ha] at hv
  rw [rdB_true hv]
theorem Had.update {w : World} {b : Nat} {l : Tx} (h : Had w b l) (n : Bs) (hn : n.length ≤ 1000000000) (hl : l.length ≤ 1000000000) :
    ∃ w2, (Instr.mapUpdate 49 (.map (some b)) (.string (txt n)) (.bool true)).run Tryd.prog w = .ok () w2 ∧ Had w2 b (put n [] l) ∧ Ch (fun k => k = b) w w2 := by
  obtain ⟨w2, hr, ho, hgr⟩ := h.map.update (string_keyed Tryd.underlying9) Tryd.underlying49 (by unfold maxLen; omega) (D4.keyS (txt n) (by rw [txt_size]; omega)) (show rdB (.bool true) = some (.lit (.string []), []) from rfl)
  refine ⟨w2, hr, ⟨D4.put_asc h.asc, ?_⟩, Ch.of_grown hgr fun k hk => by cases hk; rfl⟩
  rw [datT_put h.asc, data_txt] at ho
  have := ownsB_tight ho
  rwa [datT_size] at this
theorem Had.made (w : World) : Had (w.alloc (.map #[] 0)) w.heap.size [] := ⟨List.Pairwise.nil, World.ownsMap_made w Tryd.prog 9 rdB⟩
end Go.Proofs.YtfjlkphpeneahaaDoor
