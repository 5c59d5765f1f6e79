/- Texts by their fingerprints: how a pile of them lies in memory, is asked, grows. -/
import Derived.Test.YtogihpofkjpokaaGreatDoorDNamed
import Derived.Test.YtogihpofkjpokaaGreatDoorFAll
import Derived.Test.YtogihpofkjpokaaGreatDoorAWalkR
namespace Go.Proofs.YtogihpofkjpokaaGreatDoor
open Go Go.RowKit Go.Maps
open D4 (put Asc RdS before_ne look_mem asc_ext)
open F5 (txt txt_size txt_data data_txt)

/-- Texts by names that rise. -/
abbrev Tx := List (List UInt8 × List UInt8)
/-- A chunk's value. -/
def cv (t : List UInt8) : Value := .agg #[.string (txt t)]
def rdC : Value → Option (DataW Nat × List MemPlace)
  | .agg a => match a.toList with
    | [.string s] => some (.lit (.string s.data.toList), [])
    | _ => none
  | _ => none
theorem rdC_cv (t : List UInt8) : rdC (cv t) = some (.lit (.string t), []) := rfl
theorem rdC_inv {v : Value} {t : List UInt8} {ps : List MemPlace} (h : rdC v = some (.lit (.string t), ps)) : v = cv t := by
  unfold rdC at h
  split at h
  · rename_i a
    split at h
    · rename_i s hs
      simp only [Option.some.injEq, Prod.mk.injEq, DataW.lit.injEq, Lit.string.injEq] at h
      unfold cv
      rw [← h.1, txt_data, ← hs]
    · cases h
  · cases h
def entT (p : List UInt8 × List UInt8) : Lit × DataW Nat := (.string p.1, .lit (.string p.2))
def datT (l : Tx) : DataW Nat := .map (l.map entT)
theorem filterT (n : List UInt8) (l : Tx) (h : ∀ q ∈ l, q.1 ≠ n) : (l.map entT).filter (fun p => !p.1.sameKey (.string n)) = l.map entT := by
  refine List.filter_eq_self.2 fun p hp => ?_
  obtain ⟨q, hq, rfl⟩ := List.mem_map.1 hp
  simp [entT, Lit.sameKey, h q hq]
theorem datT_aux (n b : List UInt8) : ∀ l : Tx, Asc l → DataW.insert (entT (n, b)) ((l.map entT).filter fun p => !p.1.sameKey (.string n)) = (put n b l).map entT
  | [], _ => rfl
  | p :: r, h => by
    by_cases e : p.1 = n
    · rw [List.map_cons, List.filter_cons_of_neg (by simp [entT, Lit.sameKey, e]), filterT n r (fun q hq => by rw [← e]; exact (before_ne (h.head q hq)).symm), D4.insert_low]
      · rw [put, if_pos e, List.map_cons]
      · intro q hq
        obtain ⟨q', hq', rfl⟩ := List.mem_map.1 hq
        have := h.head q' hq'
        rw [e] at this
        exact this
    · rw [List.map_cons, List.filter_cons_of_pos (by simp [entT, Lit.sameKey, e]), DataW.insert, put, if_neg e]
      have eb : Lit.before (entT (n, b)).1 (entT p).1 = bytesBefore n p.1 := rfl
      rw [eb]
      by_cases hb : bytesBefore n p.1 = true
      · rw [if_pos hb, if_pos hb, filterT n r (fun q hq => ?_)]
        · rfl
        · exact (before_ne (WideShapes.bytes_trans _ _ _ hb (h.head q hq))).symm
      · rw [if_neg hb, if_neg hb, datT_aux n b r h.tail, List.map_cons]
theorem datT_put {l : Tx} (h : Asc l) (n b : List UInt8) : (datT l).put (.string n) (.lit (.string b)) = datT (put n b l) := by
  show DataW.map (DataW.insert (entT (n, b)) ((l.map entT).filter fun p => !p.1.sameKey (.string n))) = _
  rw [datT_aux n b l h]; rfl
theorem datT_at (n : List UInt8) (z : DataW Nat) : ∀ l : Tx, (datT l).atKey (.string n) z = match D4.look n l with | some b => .lit (.string b) | none => z
  | [] => rfl
  | p :: r => by
    have ih := datT_at n z r
    unfold datT DataW.atKey at ih ⊢
    by_cases e : p.1 = n
    · simp [D4.look, entT, Lit.sameKey, e]
    · simp only [D4.look, if_neg e]
      rw [← ih]
      simp [entT, Lit.sameKey, e]
theorem datT_has (n : List UInt8) : ∀ l : Tx, Maps.has (datT l) (.string n) = (D4.look n l).isSome
  | [] => rfl
  | p :: r => by
    have ih := datT_has n r
    unfold datT at ih ⊢
    rw [Maps.has_eq] at ih ⊢
    by_cases e : p.1 = n
    · simp [D4.look, entT, Lit.sameKey, e]
    · simp only [D4.look, if_neg e]
      rw [← ih]
      simp [entT, Lit.sameKey, e]
theorem datT_size (l : Tx) : Maps.size (datT l) = l.length := by unfold datT; rw [Maps.size_eq]; simp
theorem datT_keys (l : Tx) : strKeys (datT l) = l.map (·.1) := by
  unfold datT strKeys
  simp [entT, strOf, Function.comp_def]

/-- A pile: a map, or none, that has these texts. -/
structure Pile (w : World) (m : Option Nat) (l : Tx) : Prop where
  asc : Asc l
  map : ∀ b, m = some b → w.ownsMap Tryz.prog 9 rdC b l.length (datT l)
  nomap : m = none → l = []
theorem Pile.nil (w : World) : Pile w none [] := ⟨List.Pairwise.nil, (fun _ h => by cases h), (fun _ => rfl)⟩
theorem ownsC_keep {P : Nat → Prop} {w w' : World} {b n : Nat} {D : DataW Nat} (h : w.ownsMap Tryz.prog 9 rdC b n D) (hc : Ch P w w') (hs : ¬ P b) : w'.ownsMap Tryz.prog 9 rdC b n D := by
  have hlt := h.lt
  obtain ⟨es, clock, hb, F, hs', hD⟩ := h
  exact ⟨es, clock, (hc.block b hlt hs).trans hb, F, hs', hD⟩
theorem ownsC_tight {w : World} {b n : Nat} {D : DataW Nat} (h : w.ownsMap Tryz.prog 9 rdC b n D) : w.ownsMap Tryz.prog 9 rdC b (Maps.size D) D := by
  obtain ⟨es, clock, hb, F, hs, rfl⟩ := h
  exact ⟨es, clock, hb, F, by rw [Maps.size_eq, length_read]; exact Nat.le_refl _, rfl⟩
section
variable {w w' : World} {m : Option Nat} {l : Tx}
theorem Pile.keep {P : Nat → Prop} (h : Pile w m l) (hc : Ch P w w') (hs : ∀ b, m = some b → ¬ P b) : Pile w' m l := ⟨h.asc, fun b hb => ownsC_keep (h.map b hb) hc (hs b hb), h.nomap⟩
theorem Pile.new (h : Pile w m l) (hb : Below w.heap.size w w') : Pile w' m l := h.keep (Ch.of_new (S := fun _ => False) hb) fun _ _ => id
theorem Pile.lt (h : Pile w m l) {b : Nat} (hb : m = some b) : b < w.heap.size := (h.map b hb).lt
theorem Pile.obj (h : Pile w m l) {b : Nat} (hb : m = some b) : ∃ es clock, w.heap[b]? = some (.map es clock) := by
  obtain ⟨es, clock, hb, _⟩ := h.map b hb
  exact ⟨es, clock, hb⟩
def cvo : Option (List UInt8) → Value
  | none => cv []
  | some t => cv t
theorem zeroC (w : World) : (zeroValue 79).run Tryz.prog w = .ok (cv []) w := Tryz.zeroValue79 w
theorem Pile.look (h : Pile w m l) (n : ByteArray) (hn : n.size ≤ 1000000000) :
    (Instr.lookup 71 (.map m) (.string n) true).run Tryz.prog w = .ok (.tuple #[cvo (D4.look n.data.toList l), .bool (D4.look n.data.toList l).isSome]) w := by
  cases hm : m with
  | none =>
    rw [Maps.look_nil true (string_keyed Tryz.underlying9) Tryz.underlying71 (zeroC w) (D4.keyS n hn), h.nomap hm]
    rfl
  | some b =>
    obtain ⟨v, ps, hr, hv⟩ := (h.map b hm).look_ok (string_keyed Tryz.underlying9) Tryz.underlying71 (zeroC w) (rdC_cv []) (D4.keyS n hn)
    rw [hr, datT_has]
    rw [datT_at] at hv
    cases hl : D4.look n.data.toList l with
    | none => rw [hl] at hv; rw [rdC_inv hv]; rfl
    | some f => rw [hl] at hv; rw [rdC_inv hv]; rfl
theorem Pile.look1 (h : Pile w m l) (n : ByteArray) (hn : n.size ≤ 1000000000) :
    (Instr.lookup 71 (.map m) (.string n) false).run Tryz.prog w = .ok (cvo (D4.look n.data.toList l)) w := by
  cases hm : m with
  | none =>
    rw [Maps.look_nil false (string_keyed Tryz.underlying9) Tryz.underlying71 (zeroC w) (D4.keyS n hn), h.nomap hm]
    rfl
  | some b =>
    obtain ⟨v, ps, hr, hv⟩ := (h.map b hm).lookup (string_keyed Tryz.underlying9) Tryz.underlying71 (zeroC w) (rdC_cv []) (D4.keyS n hn)
    rw [hr]
    rw [datT_at] at hv
    cases hl : D4.look n.data.toList l with
    | none => rw [hl] at hv; rw [rdC_inv hv]; rfl
    | some f => rw [hl] at hv; rw [rdC_inv hv]; rfl
/-- A text put into a pile. -/
theorem Pile.update {b : Nat} (h : Pile w (some b) l) (n : ByteArray) (hn : n.size ≤ 1000000000) (t : List UInt8) (hl : l.length ≤ 1000000000) :
    ∃ w2, (Instr.mapUpdate 71 (.map (some b)) (.string n) (cv t)).run Tryz.prog w = .ok () w2 ∧ Pile w2 (some b) (put n.data.toList t l) ∧ Ch (fun k => k = b) w w2 := by
  obtain ⟨w2, hr, ho, hgr⟩ := (h.map b rfl).update (string_keyed Tryz.underlying9) Tryz.underlying71 (by unfold maxLen; omega) (D4.keyS n hn) (rdC_cv t)
  refine ⟨w2, hr, ⟨D4.put_asc h.asc, fun b' e => ?_, fun e => by cases e⟩, Ch.of_grown hgr fun k hk => by cases hk; rfl⟩
  cases e
  rw [datT_put h.asc] at ho
  have := ownsC_tight ho
  rwa [datT_size] at this
theorem Pile.made (w : World) : Pile (w.alloc (.map #[] 0)) (some w.heap.size) [] :=
  ⟨List.Pairwise.nil, fun b e => by cases e; exact World.ownsMap_made w Tryz.prog 9 rdC, fun e => by cases e⟩
end
end Go.Proofs.YtogihpofkjpokaaGreatDoor
