/- Texts of bytes; slices of texts and of numbers: read, made, grown. -/
import Derived.Test.YtfjlkphpeneahaaDoorBase
import Derived.Laws.OwnMore
namespace Go.Proofs.YtfjlkphpeneahaaDoor
open Go Go.RowKit

/-- A text of these bytes. -/
def txt (l : List UInt8) : ByteArray := ⟨l.toArray⟩
theorem txt_data (s : ByteArray) : txt s.data.toList = s := rfl
theorem data_txt (l : List UInt8) : (txt l).data.toList = l := rfl
theorem txt_size (l : List UInt8) : (txt l).size = l.length := rfl
theorem txt_inj {l m : List UInt8} (h : txt l = txt m) : l = m := by rw [← data_txt l, h, data_txt]
theorem cat (l m : List UInt8) (h : l.length + m.length ≤ 4000000000) : binOp .add 9 (.string (txt l)) (.string (txt m)) = pure (.string (txt (l ++ m))) := by
  have e : txt l ++ txt m = txt (l ++ m) := by apply ByteArray.ext; simp [txt]
  have h2 : ¬ (((txt l).size + (txt m).size : Nat) : Int) > IntKind.i64.max := by rw [txt_size, txt_size, show IntKind.i64.max = 9223372036854775807 by decide]; omega
  simp only [binOp, Op.stringOp]
  rw [if_neg h2, e]
def sv (x : List UInt8) : Value := .string (txt x)
/-- The slice of the address has these texts. -/
def RdT (w : World) (a : Option Addr) (xs : List (List UInt8)) : Prop :=
  ∀ i, i < xs.length → ∃ b off, a = some ⟨b, off, none⟩ ∧ w.cell? ⟨b, off + i, none⟩ = some (.string (txt (xs.getD i [])))
theorem RdT.keep {P : Nat → Prop} {w w' : World} {a : Option Addr} {xs : List (List UInt8)} (h : RdT w a xs) (hc : Ch P w w') (hs : ∀ ad, a = some ad → ¬ P ad.block) : RdT w' a xs := fun i hi => by
  obtain ⟨b, off, ha, h1⟩ := h i hi
  exact ⟨b, off, ha, hc.cell (p := ⟨b, off + i, none⟩) h1 (hs ⟨b, off, none⟩ ha)⟩
theorem RdT.new {w w' : World} {a : Option Addr} {xs : List (List UInt8)} (h : RdT w a xs) (hb : Below w.heap.size w w') : RdT w' a xs := h.keep (Ch.of_new (S := fun _ => False) hb) (fun _ _ => id)
theorem RdT.nil (w : World) (a : Option Addr) : RdT w a [] := fun i hi => absurd hi (by simp)
theorem RdT.take {w : World} {a : Option Addr} {xs : List (List UInt8)} (h : RdT w a xs) (k : Nat) : RdT w a (xs.take k) := fun i hi => by
  rw [List.length_take] at hi
  obtain ⟨b, off, ha, h1⟩ := h i (by omega)
  refine ⟨b, off, ha, ?_⟩
  rw [h1, List.getD_eq_getElem?_getD, List.getD_eq_getElem?_getD, List.getElem?_take_of_lt (by omega)]
theorem Tryd.info9 : (Tryd.prog.info? 9).map (fun i => (i.zero, i.size, i.bytes)) = some (some (.string ByteArray.empty), 1, 16) := by kernel_rfl
/-- A slice of texts that a call made itself. -/
def OwT (w : World) (base : Nat) (v : Value) (xs : List (List UInt8)) : Prop := w.ownsRow base 9 1 v xs.length (xs.map sv)
theorem lt_of_heap {w : World} {g : Nat} {o : Obj} (h : w.heap[g]? = some o) : g < w.heap.size := (Array.getElem?_eq_some_iff.1 h).1
section
variable {w w' : World} {base : Nat} {v : Value} {xs : List (List UInt8)}
theorem OwT.own (h : OwT w base v xs) (k : Nat) (hk : v.ownBlock = some k) : base ≤ k ∧ k < w.heap.size := by
  rcases h.2 with ⟨hv, _⟩ | ⟨g, cap, cur, hv, hb, hg, _⟩
  · rw [hv] at hk; cases hk
  · rw [hv] at hk; cases hk; exact ⟨hb, lt_of_heap hg⟩
theorem OwT.keep {P : Nat → Prop} (h : OwT w base v xs) (hc : Ch P w w') (hs : ∀ k, v.ownBlock = some k → ¬ P k) : OwT w' base v xs := by
  refine ⟨h.1, ?_⟩
  rcases h.2 with h2 | ⟨g, cap, cur, hv, hb, hg, r⟩
  · exact .inl h2
  · exact .inr ⟨g, cap, cur, hv, hb, (hc.block g (lt_of_heap hg) (hs g (by rw [hv]; rfl))).trans hg, r⟩
theorem OwT.new (h : OwT w base v xs) (hb : Below w.heap.size w w') : OwT w' base v xs := h.keep (Ch.of_new (S := fun _ => False) hb) (fun _ _ => id)
theorem OwT.nil (w : World) (base : Nat) : OwT w base (.slice none 0 0) [] := World.ownsRow_nil _ _ _ _
theorem OwT.rd (h : OwT w base v xs) : ∃ a cap, v = .slice a xs.length cap ∧ RdT w a xs ∧ (a = none → cap = 0) ∧ ∀ ad, a = some ad → base ≤ ad.block ∧ ad.block < w.heap.size := by
  rcases h.2 with ⟨hv, h0⟩ | ⟨g, cap, cur, hv, hb, hg, hnc, hcm, hcs, ht⟩
  · exact ⟨none, 0, by rw [hv, h0], fun i hi => absurd hi (by omega), fun _ => rfl, fun ad h => by cases h⟩
  · refine ⟨some ⟨g, 0, none⟩, cap, hv, fun i hi => ⟨g, 0, rfl, ?_⟩, fun h => (by cases h), fun ad h => by cases h; exact ⟨hb, lt_of_heap hg⟩⟩
    rw [cell_of_row _ _ _ _ _ _ hg, Nat.zero_add]
    have h3 : (cur.toList.take (xs.length * 1))[i]? = (xs.map sv)[i]? := by rw [ht]
    rw [List.getElem?_take_of_lt (by omega)] at h3
    rw [← Array.getElem?_toList, h3, List.getElem?_map, List.getElem?_eq_getElem hi, List.getD_eq_getElem?_getD, List.getElem?_eq_getElem hi]
    rfl
theorem OwT.form (h : OwT w base v xs) : ∃ a c, v = .slice a xs.length c := by
  obtain ⟨a, c, hv, _⟩ := h.rd
  exact ⟨a, c, hv⟩
theorem OwT.empty (w : World) (base : Nat) (h : base ≤ w.heap.size) : OwT (w.alloc (.cells #[] 9)) base (.slice (some ⟨w.heap.size, 0, none⟩) 0 0) [] :=
  ⟨rfl, .inr ⟨w.heap.size, 0, #[], rfl, h, heap_alloc_new w _, Nat.le_refl _, by unfold maxLen; omega, rfl, rfl⟩⟩
end
section
variable {w : World} {o : Oper} {a : Act} {Q : Exit → Act → World → Prop}
/-- append of one text. -/
theorem wpList_one {ops : Array Oper} {rest : List Oper} (hgd : o.guard = none) (s x : Operand) (ho : o.op = .call { callee := .builtin .append, args := #[s, x], argTypes := #[27, 27] })
    (base : Nat) (v : Value) (xs : List (List UInt8)) (hs : a.eval s = v) (hown : OwT w base v xs) (g : Nat) (n : List UInt8)
    (hx : a.eval x = .slice (some ⟨g, 0, none⟩) 1 1) (hrow : w.heap[g]? = some (.cells #[.string (txt n)] 9 (0, 0))) (hlen : xs.length + 1 ≤ 100000000) (hbase : base ≤ w.heap.size)
    (h : ∀ v' w', OwT w' base v' (xs ++ [n]) → Ch (fun j => v.ownBlock = some j) w w' → wpList Tryd.prog ops Q rest (a.put o.dst v') w') : wpList Tryd.prog ops Q (o :: rest) a w := by
  obtain ⟨i0, hi, hz0, hz1, hz2⟩ := info_parts Tryd.info9
  refine wpList_append_own _ hgd s x 27 ho base 9 i0 _ 1 16 Tryd.underlying27 hi hz0 hz1 hz2 rfl (by decide) v xs.length (xs.map sv) hs hown ⟨g, 0, none⟩ 1 1 [.string (txt n)] hx (by simp) ?_ ?_ (by unfold maxLen; omega) (by omega) hbase ?_
  · intro j z hj
    rw [add0, cell_of_row _ _ _ _ _ _ hrow]
    simpa using hj
  · intro z hz
    simp only [List.mem_cons, List.not_mem_nil, or_false] at hz
    rw [hz]; rfl
  · intro v' w' h1 h2 _
    refine h v' w' ?_ (Ch.of_grown h2 fun k hk => hk)
    unfold OwT
    rw [List.length_append, List.map_append, show [n].map sv = [.string (txt n)] from rfl]
    exact h1
end
theorem srow (W : World) (i : Nat) (hi : W.heap.size = i) (n : List UInt8) : (W.alloc (.cells #[.string (txt n)] 9)).heap[i]? = some (.cells #[.string (txt n)] 9 (0, 0)) := by
  subst hi
  exact heap_alloc_new W _
theorem getD_at {xs : List (List UInt8)} {i : Nat} (h : i < xs.length) : xs.getD i [] = xs[i] := by
  rw [List.getD_eq_getElem?_getD, List.getElem?_eq_getElem h]; rfl
theorem take_at {xs : List (List UInt8)} {i : Nat} (h : i < xs.length) : xs.take (i + 1) = xs.take i ++ [xs.getD i []] := by
  rw [List.take_succ_eq_append_getElem h, getD_at h]
theorem txt_eq (l m : List UInt8) : ((txt l).toList == (txt m).toList) = decide (l = m) := by
  rw [ByteArray.toList_eq, ByteArray.toList_eq, data_txt, data_txt]
  by_cases h : l = m
  · rw [decide_eq_true h, h]; exact beq_self_eq_true _
  · rw [decide_eq_false h]; exact beq_eq_false_iff_ne.2 h

def nv (n : Nat) : Value := .int .i64 (n : Int)
theorem Tryd.info3 : (Tryd.prog.info? 3).map (fun i => (i.zero, i.size, i.bytes)) = some (some (.int .i64 0), 1, 8) := by kernel_rfl
/-- A slice of numbers that a call made itself. -/
def OwN (w : World) (base : Nat) (v : Value) (es : List Nat) : Prop := w.ownsRow base 3 1 v es.length (es.map nv)
/-- The slice has these numbers. -/
def RdN (w : World) (a : Option Addr) (es : List Nat) : Prop := ∀ i, i < es.length → ∃ b off, a = some ⟨b, off, none⟩ ∧ w.cell? ⟨b, off + i, none⟩ = some (.int .i64 ((es.getD i 0 : Nat) : Int))
theorem RdN.new {w w' : World} {a : Option Addr} {es : List Nat} (h : RdN w a es) (hb : Below w.heap.size w w') : RdN w' a es := fun i hi => by
  obtain ⟨b, off, ha, h1⟩ := h i hi
  exact ⟨b, off, ha, (Ch.of_new (S := fun _ => False) hb).cell (p := ⟨b, off + i, none⟩) h1 id⟩
theorem RdN.take {w : World} {a : Option Addr} {es : List Nat} (h : RdN w a es) (k : Nat) : RdN w a (es.take k) := fun i hi => by
  rw [List.length_take] at hi
  obtain ⟨b, off, ha, h1⟩ := h i (by omega)
  refine ⟨b, off, ha, ?_⟩
  rw [h1, List.getD_eq_getElem?_getD, List.getD_eq_getElem?_getD, List.getElem?_take_of_lt (by omega)]
section
variable {w w' : World} {base : Nat} {v : Value} {es : List Nat}
theorem OwN.own (h : OwN w base v es) (k : Nat) (hk : v.ownBlock = some k) : base ≤ k ∧ k < w.heap.size := by
  rcases h.2 with ⟨hv, _⟩ | ⟨g, cap, cur, hv, hb, hg, _⟩
  · rw [hv] at hk; cases hk
  · rw [hv] at hk; cases hk; exact ⟨hb, lt_of_heap hg⟩
theorem OwN.keep {P : Nat → Prop} (h : OwN w base v es) (hc : Ch P w w') (hs : ∀ k, v.ownBlock = some k → ¬ P k) : OwN w' base v es := by
  refine ⟨h.1, ?_⟩
  rcases h.2 with h2 | ⟨g, cap, cur, hv, hb, hg, r⟩
  · exact .inl h2
  · exact .inr ⟨g, cap, cur, hv, hb, (hc.block g (lt_of_heap hg) (hs g (by rw [hv]; rfl))).trans hg, r⟩
theorem OwN.new (h : OwN w base v es) (hb : Below w.heap.size w w') : OwN w' base v es := h.keep (Ch.of_new (S := fun _ => False) hb) (fun _ _ => id)
theorem OwN.rd (h : OwN w base v es) : ∃ a cap, v = .slice a es.length cap ∧ RdN w a es := by
  rcases h.2 with ⟨hv, h0⟩ | ⟨g, cap, cur, hv, hb, hg, hnc, hcm, hcs, ht⟩
  · exact ⟨none, 0, by rw [hv, h0], fun i hi => absurd hi (by omega)⟩
  · refine ⟨some ⟨g, 0, none⟩, cap, hv, fun i hi => ⟨g, 0, rfl, ?_⟩⟩
    rw [cell_of_row _ _ _ _ _ _ hg, Nat.zero_add]
    have h3 : (cur.toList.take (es.length * 1))[i]? = (es.map nv)[i]? := by rw [ht]
    rw [List.getElem?_take_of_lt (by omega)] at h3
    rw [← Array.getElem?_toList, h3, List.getElem?_map, List.getElem?_eq_getElem hi, List.getD_eq_getElem?_getD, List.getElem?_eq_getElem hi]
    rfl
theorem OwN.nil (w : World) (base : Nat) : OwN w base (.slice none 0 0) [] := World.ownsRow_nil _ _ _ _
theorem OwN.first (w : World) (base : Nat) (h : base ≤ w.heap.size) : OwN (w.alloc (.cells #[.int .i64 0] 3)) base (.slice (some ⟨w.heap.size, 0, none⟩) 1 1) [0] :=
  ⟨rfl, .inr ⟨w.heap.size, 1, #[.int .i64 0], rfl, h, heap_alloc_new w _, Nat.le_refl _, by unfold maxLen; omega, rfl, rfl⟩⟩
end
section
variable {w : World} {o : Oper} {a : Act} {Q : Exit → Act → World → Prop}
/-- append of one number. -/
theorem wpList_num {ops : Array Oper} {rest : List Oper} (hgd : o.guard = none) (s x : Operand) (ho : o.op = .call { callee := .builtin .append, args := #[s, x], argTypes := #[67, 67] })
    (base : Nat) (v : Value) (es : List Nat) (hs : a.eval s = v) (hown : OwN w base v es) (g : Nat) (n : Nat)
    (hx : a.eval x = .slice (some ⟨g, 0, none⟩) 1 1) (hrow : w.heap[g]? = some (.cells #[.int .i64 (n : Int)] 3 (0, 0))) (hlen : es.length + 1 ≤ 100000000) (hbase : base ≤ w.heap.size)
    (h : ∀ v' w', OwN w' base v' (es ++ [n]) → Ch (fun j => v.ownBlock = some j) w w' → wpList Tryd.prog ops Q rest (a.put o.dst v') w') : wpList Tryd.prog ops Q (o :: rest) a w := by
  obtain ⟨i0, hi, hz0, hz1, hz2⟩ := info_parts Tryd.info3
  refine wpList_append_own _ hgd s x 67 ho base 3 i0 _ 1 8 Tryd.underlying67 hi hz0 hz1 hz2 rfl (by decide) v es.length (es.map nv) hs hown ⟨g, 0, none⟩ 1 1 [.int .i64 (n : Int)] hx (by simp) ?_ ?_ (by unfold maxLen; omega) (by omega) hbase ?_
  · intro j z hj
    rw [add0, cell_of_row _ _ _ _ _ _ hrow]
    simpa using hj
  · intro z hz
    simp only [List.mem_cons, List.not_mem_nil, or_false] at hz
    rw [hz]; rfl
  · intro v' w' h1 h2 _
    refine h v' w' ?_ (Ch.of_grown h2 fun k hk => hk)
    unfold OwN
    rw [List.length_append, List.map_append, show [n].map nv = [.int .i64 (n : Int)] from rfl]
    exact h1
end
theorem nrow (W : World) (i : Nat) (hi : W.heap.size = i) (n : Nat) : (W.alloc (.cells #[.int .i64 (n : Int)] 3)).heap[i]? = some (.cells #[.int .i64 (n : Int)] 3 (0, 0)) := by
  subst hi
  exact heap_alloc_new W _
section
attribute [-go_sem] Builtin.append_
/-- append of all texts of a list. -/
theorem append_run (w : World) (base : Nat) (v : Value) (xs : List (List UInt8)) (hown : OwT w base v xs) (ad : Option Addr) (c : Nat) (ys : List (List UInt8)) (hr : RdT w ad ys) (hn : ad = none → c = 0)
    (hlen : xs.length + ys.length ≤ 100000000) (hbase : base ≤ w.heap.size) :
    ∃ a' c' w', (Builtin.append_ #[27, 27] 27 #[v, .slice ad ys.length c]).run Tryd.prog w = .ok (.slice a' (xs.length + ys.length) c') w' ∧ OwT w' base (.slice a' (xs.length + ys.length) c') (xs ++ ys) ∧ RdT w' a' (xs ++ ys) ∧ Ch (fun j => v.ownBlock = some j) w w' := by
  obtain ⟨i0, hi, hz0, hz1, hz2⟩ := info_parts Tryd.info9
  cases ad with
  | none =>
    have hy : ys = [] := by
      cases ys with
      | nil => rfl
      | cons y l => obtain ⟨_, _, he, _⟩ := hr 0 (by simp); cases he
    subst hy
    rw [hn rfl]
    obtain ⟨a', c', rfl, h1, _⟩ := hown.rd
    refine ⟨a', c', w, run_append_owned_none w base 27 27 9 i0 1 Tryd.underlying27 hi _ xs.length (xs.map sv) hown, ?_, ?_, Ch.refl _ _⟩
    · rw [List.append_nil]; exact hown
    · rw [List.append_nil]; exact h1
  | some ad =>
    obtain ⟨v', w', h1, h2, h3, _⟩ := run_append_own (P := Tryd.prog) w base 27 27 9 i0 _ 1 16 Tryd.underlying27 hi hz0 hz1 hz2 rfl (by decide) v xs.length (xs.map sv) hown ad ys.length c (ys.map sv) (by simp)
      (fun j z hj => by
        have hjl : j < ys.length := by
          have := (List.getElem?_eq_some_iff.1 hj).1
          simpa using this
        obtain ⟨b, off, he, hcell⟩ := hr j hjl
        cases he
        rw [Addr.add_lit, hcell, ← hj, List.getElem?_map, List.getElem?_eq_getElem hjl, getD_at hjl]
        rfl)
      (fun z hz => by
        obtain ⟨y, _, rfl⟩ := List.mem_map.1 hz
        rfl) (by unfold maxLen; omega) (by omega) hbase
    have ho : OwT w' base v' (xs ++ ys) := by
      unfold OwT
      rw [List.length_append, List.map_append]
      exact h2
    obtain ⟨a', c', hv, h4, _⟩ := ho.rd
    rw [List.length_append] at hv
    subst hv
    exact ⟨a', c', w', h1, ho, h4, Ch.of_grown h3 fun k hk => hk⟩

/-- Both lists, one behind the other. -/
theorem both_run (w : World) (a b : Option Addr) (ca cb : Nat) (xs ys : List (List UInt8)) (ha : RdT w a xs) (hb : RdT w b ys) (na : a = none → ca = 0) (nb : b = none → cb = 0) (hx : xs.length ≤ 100000) (hy : ys.length ≤ 100000) :
    ∃ a1 c1 w1 a2 c2 w2, (Builtin.append_ #[27, 27] 27 #[.slice (some ⟨w.heap.size, 0, none⟩) 0 0, .slice a xs.length ca]).run Tryd.prog (w.alloc (.cells #[] 9)) = .ok (.slice a1 xs.length c1) w1 ∧
      (Builtin.append_ #[27, 27] 27 #[.slice a1 xs.length c1, .slice b ys.length cb]).run Tryd.prog w1 = .ok (.slice a2 (xs ++ ys).length c2) w2 ∧ RdT w2 a2 (xs ++ ys) ∧ Below w.heap.size w w2 := by
  have hB0 : Below w.heap.size w (w.alloc (.cells #[] 9)) := (Below.refl _ _).alloc (Nat.le_refl _) _
  have hz0 := hB0.size
  obtain ⟨a1, c1, w1, h1, h2, _, h3⟩ := append_run (w.alloc (.cells #[] 9)) w.heap.size _ [] (OwT.empty w w.heap.size (Nat.le_refl _)) a ca xs (ha.new hB0) na (by simp; omega) (by simp)
  rw [List.nil_append] at h2
  rw [List.length_nil, Nat.zero_add] at h1 h2
  have hC1 : Ch (fun j => w.heap.size ≤ j) (w.alloc (.cells #[] 9)) w1 := h3.mono fun j _ hj => by
    have : w.heap.size = j := Option.some.inj hj
    omega
  have hB1 : Below w.heap.size w w1 := hB0.trans (hC1.below hz0 fun k hk hge => by omega)
  obtain ⟨a2, c2, w2, h4, h5, h6, h7⟩ := append_run w1 w.heap.size _ xs h2 b cb ys (hb.new hB1) nb (by omega) hB1.size
  have hC2 : Ch (fun j => w.heap.size ≤ j) w1 w2 := h7.mono fun j _ hj => (h2.own j hj).1
  exact ⟨a1, c1, w1, a2, c2, w2, h1, by rw [List.length_append]; exact h4, h6, hB1.trans (hC2.below hB1.size fun k hk hge => by omega)⟩

end
end Go.Proofs.YtfjlkphpeneahaaDoor
