/- Texts by their fingerprints: how a pile of them lies in memory, is asked, grows. A source in memory: the walks of Get, Put and NewHeap. -/
import Derived.Test.YtfjlkphpeneahaaDoorDModel
import Derived.Test.YtfjlkphpeneahaaDoorTBase
import Derived.Test.YtfjlkphpeneahaaDoorEnds
namespace Go.Proofs.YtfjlkphpeneahaaDoor.D4
open Go Go.RowKit
theorem keyS (n : ByteArray) (h : n.size ≤ 1000000000) : keyOf Tryd.prog 9 (.string n) = some (.string n.data.toList) := _root_.Go.WideMaps.keyOf_string_mk Tryd.underlying9 (by unfold maxLen; omega)
end Go.Proofs.YtfjlkphpeneahaaDoor.D4
namespace Go.Proofs.YtfjlkphpeneahaaDoor
open Go Go.RowKit Go.Maps
open D4 (put Asc before_ne look_mem)

/-- Texts by names that rise. -/
abbrev Tx := List (List UInt8 × List UInt8)
/-- A chunk's value. -/
def cv (t : List UInt8) : Value := .agg #[.string (txt t)]
def rdC : Value → Option (DataW Nat × List MemPlace)
  | .agg a => match a.toList with
    | [.string s] => some (.lit (.string s.data.toList), [])
    | _ => none
  | _ => none
theorem rdC_cv (t : List UInt8) : rdC (cv t) = some (.lit (.string t), []) := rfl
theorem rdC_inv {v : Value} {t : List UInt8} {ps : List MemPlace} (h : rdC v = some (.lit (.string t), ps)) : v = cv t := by
  unfold rdC at h
  split at h
  · rename_i a
    split at h
    · rename_i s hs
      simp only [Option.some.injEq, Prod.mk.injEq, DataW.lit.injEq, Lit.string.injEq] at h
      unfold cv
      rw [← h.1, txt_data, ← hs]
    · cases h
  · cases h
def entT (p : List UInt8 × List UInt8) : Lit × DataW Nat := (.string p.1, .lit (.string p.2))
def datT (l : Tx) : DataW Nat := .map (l.map entT)
theorem filterT (n : List UInt8) (l : Tx) (h : ∀ q ∈ l, q.1 ≠ n) : (l.map entT).filter (fun p => !p.1.sameKey (.string n)) = l.map entT := by
  refine List.filter_eq_self.2 fun p hp => ?_
  obtain ⟨q, hq, rfl⟩ := List.mem_map.1 hp
  simp [entT, Lit.sameKey, h q hq]
theorem datT_aux (n b : List UInt8) : ∀ l : Tx, Asc l → DataW.insert (entT (n, b)) ((l.map entT).filter fun p => !p.1.sameKey (.string n)) = (put n b l).map entT
  | [], _ => rfl
  | p :: r, h => by
    by_cases e : p.1 = n
    · rw [List.map_cons, List.filter_cons_of_neg (by simp [entT, Lit.sameKey, e]), filterT n r (fun q hq => by rw [← e]; exact (before_ne (h.head q hq)).symm), D4.insert_low]
      · rw [put, if_pos e, List.map_cons]
      · intro q hq
        obtain ⟨q', hq', rfl⟩ := List.mem_map.1 hq
        have := h.head q' hq'
        rw [e] at this
        exact this
    · rw [List.map_cons, List.filter_cons_of_pos (by simp [entT, Lit.sameKey, e]), DataW.insert, put, if_neg e]
      have eb : Lit.before (entT (n, b)).1 (entT p).1 = bytesBefore n p.1 := rfl
      rw [eb]
      by_cases hb : bytesBefore n p.1 = true
      · rw [if_pos hb, if_pos hb, filterT n r (fun q hq => ?_)]
        · rfl
        · exact (before_ne (WideShapes.bytes_trans _ _ _ hb (h.head q hq))).symm
      · rw [if_neg hb, if_neg hb, datT_aux n b r h.tail, List.map_cons]
theorem datT_put {l : Tx} (h : Asc l) (n b : List UInt8) : (datT l).put (.string n) (.lit (.string b)) = datT (put n b l) := by
  show DataW.map (DataW.insert (entT (n, b)) ((l.map entT).filter fun p => !p.1.sameKey (.string n))) = _
  rw [datT_aux n b l h]; rfl
theorem datT_at (n : List UInt8) (z : DataW Nat) : ∀ l : Tx, (datT l).atKey (.string n) z = match D4.look n l with | some b => .lit (.string b) | none => z
  | [] => rfl
  | p :: r => by
    have ih := datT_at n z r
    unfold datT DataW.atKey at ih ⊢
    by_cases e : p.1 = n
    · simp [D4.look, entT, Lit.sameKey, e]
    · simp only [D4.look, if_neg e]
      rw [← ih]
      simp [entT, Lit.sameKey, e]
theorem datT_has (n : List UInt8) : ∀ l : Tx, Maps.has (datT l) (.string n) = (D4.look n l).isSome
  | [] => rfl
  | p :: r => by
    have ih := datT_has n r
    unfold datT at ih ⊢
    rw [Maps.has_eq] at ih ⊢
    by_cases e : p.1 = n
    · simp [D4.look, entT, Lit.sameKey, e]
    · simp only [D4.look, if_neg e]
      rw [← ih]
      simp [entT, Lit.sameKey, e]
theorem datT_size (l : Tx) : Maps.size (datT l) = l.length := by unfold datT; rw [Maps.size_eq]; simp
theorem datT_keys (l : Tx) : strKeys (datT l) = l.map (·.1) := by
  unfold datT strKeys
  simp [entT, strOf, Function.comp_def]

/-- A pile: a map, or none, that has these texts. -/
structure Pile (w : World) (m : Option Nat) (l : Tx) : Prop where
  asc : Asc l
  map : ∀ b, m = some b → w.ownsMap Tryd.prog 9 rdC b l.length (datT l)
  nomap : m = none → l = []
theorem Pile.nil (w : World) : Pile w none [] := ⟨List.Pairwise.nil, (fun _ h => by cases h), (fun _ => rfl)⟩
theorem ownsC_keep {P : Nat → Prop} {w w' : World} {b n : Nat} {D : DataW Nat} (h : w.ownsMap Tryd.prog 9 rdC b n D) (hc : Ch P w w') (hs : ¬ P b) : w'.ownsMap Tryd.prog 9 rdC b n D := by
  have hlt := h.lt
  obtain ⟨es, clock, hb, F, hs', hD⟩ := h
  exact ⟨es, clock, (hc.block b hlt hs).trans hb, F, hs', hD⟩
theorem ownsC_tight {w : World} {b n : Nat} {D : DataW Nat} (h : w.ownsMap Tryd.prog 9 rdC b n D) : w.ownsMap Tryd.prog 9 rdC b (Maps.size D) D := by
  obtain ⟨es, clock, hb, F, hs, rfl⟩ := h
  exact ⟨es, clock, hb, F, by rw [Maps.size_eq, length_read]; exact Nat.le_refl _, rfl⟩
section
variable {w w' : World} {m : Option Nat} {l : Tx}
theorem Pile.keep {P : Nat → Prop} (h : Pile w m l) (hc : Ch P w w') (hs : ∀ b, m = some b → ¬ P b) : Pile w' m l := ⟨h.asc, fun b hb => ownsC_keep (h.map b hb) hc (hs b hb), h.nomap⟩
theorem Pile.new (h : Pile w m l) (hb : Below w.heap.size w w') : Pile w' m l := h.keep (Ch.of_new (S := fun _ => False) hb) fun _ _ => id
theorem Pile.lt (h : Pile w m l) {b : Nat} (hb : m = some b) : b < w.heap.size := (h.map b hb).lt
theorem Pile.obj (h : Pile w m l) {b : Nat} (hb : m = some b) : ∃ es clock, w.heap[b]? = some (.map es clock) := by
  obtain ⟨es, clock, hb, _⟩ := h.map b hb
  exact ⟨es, clock, hb⟩
def cvo : Option (List UInt8) → Value
  | none => cv []
  | some t => cv t
theorem zeroC (w : World) : (zeroValue 132).run Tryd.prog w = .ok (cv []) w := Tryd.zeroValue132 w
theorem Pile.look (h : Pile w m l) (n : ByteArray) (hn : n.size ≤ 1000000000) :
    (Instr.lookup 90 (.map m) (.string n) true).run Tryd.prog w = .ok (.tuple #[cvo (D4.look n.data.toList l), .bool (D4.look n.data.toList l).isSome]) w := by
  cases hm : m with
  | none =>
    rw [Maps.look_nil true (string_keyed Tryd.underlying9) Tryd.underlying90 (zeroC w) (D4.keyS n hn), h.nomap hm]
    rfl
  | some b =>
    obtain ⟨v, ps, hr, hv⟩ := (h.map b hm).look_ok (string_keyed Tryd.underlying9) Tryd.underlying90 (zeroC w) (rdC_cv []) (D4.keyS n hn)
    rw [hr, datT_has]
    rw [datT_at] at hv
    cases hl : D4.look n.data.toList l with
    | none => rw [hl] at hv; rw [rdC_inv hv]; rfl
    | some f => rw [hl] at hv; rw [rdC_inv hv]; rfl
theorem Pile.look1 (h : Pile w m l) (n : ByteArray) (hn : n.size ≤ 1000000000) :
    (Instr.lookup 90 (.map m) (.string n) false).run Tryd.prog w = .ok (cvo (D4.look n.data.toList l)) w := by
  cases hm : m with
  | none =>
    rw [Maps.look_nil false (string_keyed Tryd.underlying9) Tryd.underlying90 (zeroC w) (D4.keyS n hn), h.nomap hm]
    rfl
  | some b =>
    obtain ⟨v, ps, hr, hv⟩ := (h.map b hm).lookup (string_keyed Tryd.underlying9) Tryd.underlying90 (zeroC w) (rdC_cv []) (D4.keyS n hn)
    rw [hr]
    rw [datT_at] at hv
    cases hl : D4.look n.data.toList l with
    | none => rw [hl] at hv; rw [rdC_inv hv]; rfl
    | some f => rw [hl] at hv; rw [rdC_inv hv]; rfl
/-- A text put into a pile. -/
theorem Pile.update {b : Nat} (h : Pile w (some b) l) (n : ByteArray) (hn : n.size ≤ 1000000000) (t : List UInt8) (hl : l.length ≤ 1000000000) :
    ∃ w2, (Instr.mapUpdate 90 (.map (some b)) (.string n) (cv t)).run Tryd.prog w = .ok () w2 ∧ Pile w2 (some b) (put n.data.toList t l) ∧ Ch (fun k => k = b) w w2 := by
  obtain ⟨w2, hr, ho, hgr⟩ := (h.map b rfl).update (string_keyed Tryd.underlying9) Tryd.underlying90 (by unfold maxLen; omega) (D4.keyS n hn) (rdC_cv t)
  refine ⟨w2, hr, ⟨D4.put_asc h.asc, fun b' e => ?_, fun e => by cases e⟩, Ch.of_grown hgr fun k hk => by cases hk; rfl⟩
  cases e
  rw [datT_put h.asc] at ho
  have := ownsC_tight ho
  rwa [datT_size] at this
theorem Pile.made (w : World) : Pile (w.alloc (.map #[] 0)) (some w.heap.size) [] :=
  ⟨List.Pairwise.nil, fun b e => by cases e; exact World.ownsMap_made w Tryd.prog 9 rdC, fun e => by cases e⟩
end
end Go.Proofs.YtfjlkphpeneahaaDoor
namespace Go.Proofs.YtfjlkphpeneahaaDoor
open Go Go.RowKit Go.Maps
open D4 (put)

/-- A heap that has this pile; it and its map lie at base or above. -/
def Hp (w : World) (h base : Nat) (l : Tx) : Prop := ∃ m, w.heap[h]? = some (.cells #[.map m] 92 (0, 0)) ∧ Pile w m l ∧ base ≤ h ∧ ∀ b, m = some b → base ≤ b ∧ b ≠ h
theorem Hp.lt {w : World} {h base : Nat} {l : Tx} (H : Hp w h base l) : h < w.heap.size := by
  obtain ⟨m, h1, _⟩ := H
  exact lt_of_heap h1
theorem Hp.keep {S : Nat → Prop} {w w' : World} {h base : Nat} {l : Tx} (H : Hp w h base l) (hc : Ch S w w') (hs : ∀ k, base ≤ k → k < w.heap.size → ¬ S k) : Hp w' h base l := by
  obtain ⟨m, h1, h2, h3, h4⟩ := H
  exact ⟨m, (hc.block h (lt_of_heap h1) (hs h h3 (lt_of_heap h1))).trans h1, h2.keep hc fun b hb => hs b (h4 b hb).1 (h2.lt hb), h3, h4⟩
theorem Hp.new {w w' : World} {h base : Nat} {l : Tx} (H : Hp w h base l) (hb : Below w.heap.size w w') : Hp w' h base l := H.keep (Ch.of_new (S := fun _ => False) hb) fun _ _ _ => id
theorem Hp.low {w : World} {h base base' : Nat} {l : Tx} (H : Hp w h base l) (hb : base' ≤ base) : Hp w h base' l := by
  obtain ⟨m, h1, h2, h3, h4⟩ := H
  exact ⟨m, h1, h2, by omega, fun b hb' => ⟨by have := (h4 b hb').1; omega, (h4 b hb').2⟩⟩
/-- What a pile has at a fingerprint. -/
abbrev at_ (l : Tx) (p : Bs) : Option Bs := D4.look p l
def gotV (o : Option Bs) : Value := .tuple #[.string (txt (o.getD [])), .bool o.isSome]
theorem cvo_eq (o : Option Bs) : cvo o = .agg #[.string (txt (o.getD []))] := by cases o <;> rfl
set_option maxRecDepth 100000 in
set_option maxHeartbeats 400000 in
theorem get_any {w : World} {h base : Nat} {l : Tx} (H : Hp w h base l) (p : Bs) (hp : p.length ≤ 1000000) :
    Calls Tryd.prog 123 #[.pointer (some ⟨h, 0, none⟩), .string (txt p)] w fun e w' => e = .returned (gotV (at_ l p)) ∧ Below w.heap.size w w' := by
  obtain ⟨m, h1, h2, h3, h4⟩ := H
  have c0 : w.cell? ⟨h, 0, none⟩ = some (.map m) := cell_of_row _ _ 0 _ _ _ h1
  have hl := h2.look (txt p) (by rw [txt_size]; omega)
  rw [data_txt, cvo_eq] at hl
  unfold gotV at_
  generalize (D4.look p l).isSome = q at *
  generalize (D4.look p l).getD [] = t at *
  clear h1 h2 h3 h4
  go_enter Tryd.func123, Tryd.ntmps123
  go_wp2
  go_ret2
  exact ⟨rfl, (Below.refl _ _).alloc (Nat.le_refl _) _⟩
theorem Hp.asc {w : World} {h base : Nat} {l : Tx} (H : Hp w h base l) : D4.Asc l := by
  obtain ⟨m, _, h2, _⟩ := H
  exact h2.asc
set_option maxRecDepth 100000 in
set_option maxHeartbeats 1000000 in
theorem put_any {w : World} (hK : S1.KR w) {h base : Nat} {l : Tx} (H : Hp w h base l) (hb0 : 0 < base) (hbw : base ≤ w.heap.size) (hll : l.length ≤ 1000000) (t : Bs) (ht : t.length ≤ 100000) :
    Calls Tryd.prog 42 #[.pointer (some ⟨h, 0, none⟩), .string (txt t)] w fun e w' => e = .returned (.tuple #[.string (txt (sha t)), .int .i64 0]) ∧ Hp w' h base (put (sha t) t l) ∧ Ch (fun k => base ≤ k) w w' := by
  obtain ⟨m, h1, h2, h3, h4⟩ := H
  have c0 : w.cell? ⟨h, 0, none⟩ = some (.map m) := cell_of_row _ _ 0 _ _ _ h1
  have f0 : w.frozen? ⟨h, 0, none⟩ = false := frozen_of_row _ _ _ _ _ h1
  have hq : (binOp .eql 90 (.map m) (.map none)).run Tryd.prog w = .ok (.bool m.isNone) w := run_eql_map_nil w _ _ _ m Tryd.underlying90
  have hlt := lt_of_heap h1
  cases m with
  | some b =>
    have P : Hid (Calls Tryd.prog 28 #[.string (txt t)] w fun e w' => e = .returned (.string (txt (sha t))) ∧ w'.cell? ⟨h, 0, none⟩ = some (.map (some b)) ∧ ∃ w2, (Instr.mapUpdate 90 (.map (some b)) (.string (txt (sha t))) (.agg #[.string (txt t)])).run Tryd.prog w' = .ok () w2 ∧ Hp w2 h base (put (sha t) t l) ∧ Ch (fun k => base ≤ k) w w2) := Lib.hid (by
      refine (print_txt t ht w hK).mono ?_
      rintro e w1 ⟨rfl, hb1⟩
      obtain ⟨w2, hr, hp2, hc2⟩ := (h2.new hb1).update (txt (sha t)) (by rw [txt_size, sha_len]; omega) t (by omega)
      rw [data_txt] at hp2
      have hne := h4 b rfl
      have h11 := (hb1.block h hlt).trans h1
      have hc : Ch (fun k => base ≤ k) w w2 := (Ch.of_new hb1).tr (hc2.mono fun j _ e => by omega)
      exact ⟨rfl, cell_of_row _ _ 0 _ _ _ h11, w2, hr, ⟨some b, (hc2.block h (lt_of_heap h11) (fun e => hne.2 e.symm)).trans h11, hp2, h3, h4⟩, hc⟩)
    clear h1 h2 h3 h4 hlt
    generalize txt (sha t) = p at *
    generalize txt t = tt at *
    go_enter Tryd.func42, Tryd.ntmps42
    go_wp2_with (go_at_call 28; (with_reducible refine P.out.mono ?_); rintro e w1 ⟨rfl, c1, w2, hu, hp2, hc2⟩)
    go_ret2
    exact ⟨rfl, hp2, hc2⟩
  | none =>
    have hl0 := h2.nomap rfl
    subst hl0
    obtain ⟨W, hW⟩ : ∃ W, (w.setCell ⟨h, 0, none⟩ (.map (some w.heap.size))).alloc (.map #[] 0) = W := ⟨_, rfl⟩
    have hsz : (w.setCell ⟨h, 0, none⟩ (.map (some w.heap.size))).heap.size = w.heap.size := by simp [World.setCell]
    have hc0 : Ch (fun k => base ≤ k) w W := by rw [← hW]; exact (Ch.setCell (S := fun k => base ≤ k) w ⟨h, 0, none⟩ _ fun _ => h3).tr (Ch.alloc _ _ _)
    have hrow : W.heap[h]? = some (.cells #[.map (some w.heap.size)] 92 (0, 0)) := by rw [← hW]; exact (Below.heap_alloc _ _ _ (by rw [hsz]; exact hlt)).trans (heap_setCell_same _ h 0 _ 92 _ h1)
    have hpile : Pile W (some w.heap.size) [] := by
      have := Pile.made (w.setCell ⟨h, 0, none⟩ (.map (some w.heap.size)))
      rw [hsz, hW] at this
      exact this
    have P : Hid (Calls Tryd.prog 28 #[.string (txt t)] W fun e w' => e = .returned (.string (txt (sha t))) ∧ w'.cell? ⟨h, 0, none⟩ = some (.map (some w.heap.size)) ∧ ∃ w2, (Instr.mapUpdate 90 (.map (some w.heap.size)) (.string (txt (sha t))) (.agg #[.string (txt t)])).run Tryd.prog w' = .ok () w2 ∧ Hp w2 h base (put (sha t) t []) ∧ Ch (fun k => base ≤ k) w w2) := Lib.hid (by
      have hK1 : S1.KR W := hK.below (hc0.below hbw fun k hk e => by omega) hb0
      refine (print_txt t ht _ hK1).mono ?_
      rintro e w1 ⟨rfl, hb1⟩
      obtain ⟨w2, hr, hp2, hc2⟩ := (hpile.new hb1).update (txt (sha t)) (by rw [txt_size, sha_len]; omega) t (by simp)
      rw [data_txt] at hp2
      have h11 := (hb1.block h (lt_of_heap hrow)).trans hrow
      have hc : Ch (fun k => base ≤ k) w w2 := (hc0.tr (Ch.of_new hb1)).tr (hc2.mono fun j _ e => by omega)
      exact ⟨rfl, cell_of_row _ _ 0 _ _ _ h11, w2, hr, ⟨some w.heap.size, (hc2.block h (lt_of_heap h11) (fun e => by omega)).trans h11, hp2, h3, fun b hb => by cases hb; exact ⟨hbw, by omega⟩⟩, hc⟩)
    rw [← hW] at P hrow
    have hmm := @run_makeMap Tryd.prog
    have hg0 : (w.alloc (.map #[] 0)).heap[h]? = some (.cells #[.map none] 92 (0, 0)) := (Below.heap_alloc _ _ _ hlt).trans h1
    have q0 : (w.alloc (.map #[] 0)).cell? ⟨h, 0, none⟩ = some (.map none) := cell_of_row _ _ 0 _ _ _ hg0
    have q1 : (w.alloc (.map #[] 0)).frozen? ⟨h, 0, none⟩ = false := frozen_of_row _ _ _ _ _ hg0
    clear hg0 hpile hc0 hrow hsz hW
    clear h1 h2 h3 h4
    generalize txt (sha t) = p at *
    generalize txt t = tt at *
    go_enter Tryd.func42, Tryd.ntmps42
    go_wp2_with (go_at_call 28; (with_reducible refine P.out.mono ?_); rintro e w1 ⟨rfl, c1, w2, hu, hp2, hc2⟩)
    go_ret2
    exact ⟨rfl, hp2, hc2⟩
def putAll (l : Tx) (xs : List Bs) : Tx := xs.foldl (fun k t => put (sha t) t k) l
theorem putAll_take {xs : List Bs} {i : Nat} (h : i < xs.length) (l : Tx) : putAll l (xs.take (i + 1)) = put (sha (xs.getD i [])) (xs.getD i []) (putAll l (xs.take i)) := by
  unfold putAll
  rw [take_at h, List.foldl_append]; rfl
theorem put_len (n t : Bs) : ∀ l : Tx, (put n t l).length ≤ l.length + 1
  | [] => by simp [put]
  | p :: r => by
    unfold put
    split
    · simp
    · split
      · simp
      · have := put_len n t r; simp only [List.length_cons]; omega
theorem putAll_len : ∀ (xs : List Bs) (l : Tx), (putAll l xs).length ≤ l.length + xs.length
  | [], l => by simp [putAll]
  | x :: xs, l => by
    have h1 := putAll_len xs (put (sha x) x l)
    have h2 := put_len (sha x) x l
    have h3 : putAll l (x :: xs) = putAll (put (sha x) x l) xs := rfl
    rw [h3, List.length_cons]; omega
set_option maxRecDepth 100000 in
set_option maxHeartbeats 1000000 in
theorem newHeap_any {w : World} (hK : S1.KR w) {a : Option Addr} {xs : List Bs} {c : Nat} (hR : RdT w a xs) (hl : xs.length ≤ 10000) (hx : ∀ x ∈ xs, x.length ≤ 100000) :
    Calls Tryd.prog 20 #[.slice a xs.length c] w fun e w' => e = .returned (.pointer (some ⟨w.heap.size, 0, none⟩)) ∧ Hp w' w.heap.size w.heap.size (putAll [] xs) ∧ Below w.heap.size w w' := by
  have hl' : (xs.length : Int) ≤ 10000 := by omega
  have HR := Lib.hid (And.intro hR (And.intro hx hK))
  have hb0 : Below w.heap.size w (w.alloc (.cells #[.map none] 92)) := (Below.refl _ _).alloc (Nat.le_refl _) _
  have HH : Hid (Hp (w.alloc (.cells #[.map none] 92)) w.heap.size w.heap.size []) := Lib.hid ⟨none, heap_alloc_new w _, Pile.nil _, Nat.le_refl _, fun b hb => by cases hb⟩
  clear hR hx hK
  go_enter Tryd.func20, Tryd.ntmps20
  go_wp2
  go_loopw [5, 10] (fun _ i wr => ∃ ii : Nat, i = .int .i64 (ii : Int) ∧ ii ≤ xs.length ∧ Hid (Hp wr w.heap.size w.heap.size (putAll [] (xs.take ii)) ∧ Below w.heap.size w wr)) (fun _ i _ => xs.length - (intOf i).toNat)
  case atStart => exact ⟨0, rfl, Nat.zero_le _, Lib.hid ⟨HH.out, hb0⟩⟩
  case round =>
    obtain ⟨ii, rfl, hi, HB⟩ := hrel
    by_cases hlt : ii < xs.length
    · have hlt' : (ii : Int) < (xs.length : Int) := by omega
      have hi0 : (0 : Int) ≤ (ii : Int) := by omega
      obtain ⟨b, off, rfl, k1⟩ := (HR.out.1.new HB.out.2) ii hlt
      have hmem : xs.getD ii [] ∈ xs := by rw [getD_at hlt]; exact List.getElem_mem hlt
      have P := Lib.hid (put_any (HR.out.2.2.below HB.out.2 HR.out.2.2.pos) HB.out.1 HR.out.2.2.pos HB.out.2.size (by have := putAll_len (xs.take ii) []; rw [List.length_take] at this; simp at this; omega) (xs.getD ii []) (HR.out.2.1 _ hmem))
      rw [← putAll_take hlt] at P
      generalize txt (sha (xs.getD ii [])) = p at *
      generalize txt (xs.getD ii []) = t at *
      go_wp2_with (go_at_call 42; (with_reducible refine P.out.mono ?_); rintro e w1 ⟨rfl, hp1, hc1⟩)
      go_roundw
      case rel => exact ⟨ii + 1, by go_num, by omega, Lib.hid ⟨hp1, HB.out.2.trans (hc1.below HB.out.2.size fun k hk e => by omega)⟩⟩
      case measure => simp [intOf]; omega
    · have hlt' : (xs.length : Int) ≤ (ii : Int) := by omega
      have e : xs.take ii = xs := List.take_of_length_le (by omega)
      rw [e] at HB
      go_wp2
      go_ret
      exact ⟨rfl, HB.out.1, HB.out.2⟩
end Go.Proofs.YtfjlkphpeneahaaDoor
