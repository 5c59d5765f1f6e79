/- The walks of Range, and of a list of it; append of pairs to pairs. -/
import Derived.Test.YtfjlkphpeneahaaDoorTWithin
namespace Go.Proofs.YtfjlkphpeneahaaDoor
open Go Go.RowKit Go.Shelf

set_option maxRecDepth 100000 in
set_option maxHeartbeats 1000000 in
theorem range_any {h : Nat} {mm : Option Nat} {lx : Tx} (root f t : Bs) (w : World) (H : HpM h mm lx w) :
    Calls Tryd.prog 22 #[srcV h, .string (txt root), .string (txt f), .string (txt t)] w fun e w' => ∃ b b2, e = .returned (withinRun b2) ∧ WithinG b2 (.func (.func 77) #[] #[.pointer (some ⟨b, 0, none⟩)]) f t (PairsG b (leavesRun w.heap.size) (LeavesG w.heap.size h mm lx root f)) w' ∧ w.heap.size + 3 ≤ b ∧ b < b2 ∧ Below w.heap.size w w' := by
  have P49 := Lib.hid (leaves_any root f w H)
  have P48 := Lib.hid (fun V => pairsOf_any (.func 78) #[] #[.pointer (some ⟨w.heap.size, 0, none⟩), .pointer (some ⟨w.heap.size + 1, 0, none⟩), .pointer (some ⟨w.heap.size + 2, 0, none⟩)] V)
  have P47 := Lib.hid (fun V b => within_any (.func (.func 77) #[] #[.pointer (some ⟨b, 0, none⟩)]) _ _ _ rfl (txt f) (txt t) V)
  unfold srcV at P49 ⊢
  unfold leavesRun at P49 ⊢
  have HL := Lib.hid (fun n => LeavesG.stab n h mm lx root f)
  have HT : Hid (∀ (V : World) (b : Nat), (Boxed V b 9 (.string (txt f)) ↔ Boxed V b 9 (.string (txt f)))) := Lib.hid fun V b => Iff.rfl
  go_enter Tryd.func22, Tryd.ntmps22
  go_wp2_with (first
    | (go_at_call 49; (with_reducible refine P49.out.mono ?_); rintro e w1 ⟨rfl, hG1, hb1⟩)
    | (go_at_call 48; (with_reducible refine (P48.out _).mono ?_); rintro e w2 ⟨rfl, hB2, hb2⟩)
    | (go_at_call 47; (with_reducible refine (P47.out _ _).mono ?_); rintro e w3 ⟨rfl, hB3, hB4, hB5, hb3⟩))
  go_ret
  have hz := hG1.2.2.1.lt
  have hz2 := hB2.lt
  exact ⟨w1.heap.size, w2.heap.size, rfl, ⟨⟨hB3, hB4, hB5⟩, (Ch.of_new (S := fun _ => False) hb3).boxed hB2 id, HL.out _ _ _ (HL.out _ _ _ hG1 (Ch.of_new hb2)) (Ch.of_new hb3)⟩, by omega, hz2, (hb1.trans (hb2.mono hb1.size)).trans (hb3.mono (Nat.le_trans hb1.size hb2.size))⟩
/-- What a range tells, as a list. -/
theorem listRange_any {h : Nat} {mm : Option Nat} {lx : Tx} (hs : Small lx) (root f t : Bs) (hroot : root.length ≤ 1000000) (hn : (leavesP lx root f).flatten.length ≤ 1000000) (n0 b b2 : Nat) (w : World) (hb : n0 + 3 ≤ b) (hb2 : b < b2) (hnw : ∀ k, KH h mm k → k < w.heap.size)
    (hG : WithinG b2 (.func (.func 77) #[] #[.pointer (some ⟨b, 0, none⟩)]) f t (PairsG b (leavesRun n0) (LeavesG n0 h mm lx root f)) w) :
    Calls Tryd.prog 21 #[withinRun b2] w fun e w' => ∃ v, e = .returned v ∧ OwP w' w.heap.size 52 v (witL f t (leavesP lx root f).flatten) ∧ Below w.heap.size w w' := by
  have hit := pairs_iter (gf := 78) (lb := #[.pointer (some ⟨n0, 0, none⟩), .pointer (some ⟨n0 + 1, 0, none⟩), .pointer (some ⟨n0 + 2, 0, none⟩)]) (fun _ _ => by kernel_rfl) (leaves_iter n0 h mm hs root f hroot) (LeavesG.stab n0 h mm lx root f) b
  have hst : Stab (fun k => ¬ PairsK b (LeavesK n0 h mm) k) (PairsG b (leavesRun n0) (LeavesG n0 h mm lx root f)) := fun A B H hc => ⟨hc.boxed H.1 (fun e => e (.inl rfl)), LeavesG.stab n0 h mm lx root f A B H.2 (hc.mono fun _ _ e hk => e (.inr hk))⟩
  have hwi := within_iter (gf := 77) (lb := #[.pointer (some ⟨b, 0, none⟩)]) (fun _ _ => by kernel_rfl) hit hst f t b2
  refine list_any (fun _ _ => by kernel_rfl) hwi (Nat.le_trans (wit_len f t _) hn) w ?_ ?_ hG
  · rintro k (rfl | rfl | rfl | rfl | rfl | rfl | rfl | hk)
    · exact hG.1.1.lt
    · exact hG.1.2.1.lt
    · exact hG.1.2.2.lt
    · exact hG.2.1.lt
    · exact hG.2.2.1.lt
    · exact hG.2.2.2.1.lt
    · exact hG.2.2.2.2.1.lt
    · exact hnw k hk
  · intro A B H hc
    exact ⟨boxes_keep H.1 hc (fun k h1 h2 e => e (by rcases (show k = b2 ∨ k = b2 + 1 ∨ k = b2 + 2 by omega) with e | e | e <;> simp [WithinK, e])), hst A B H.2 (hc.mono fun _ _ e hk => e (.inr (.inr (.inr hk))))⟩
/-- append of pairs to pairs. -/
theorem app_pairs (w : World) (base : Nat) (v : Value) (xs : List It) (hown : OwP w base 52 v xs) (ad : Option Addr) (c : Nat) (ys : List It) (hr : RdP w ad ys) (hn : ad = none → c = 0)
    (hlen : xs.length + ys.length ≤ 100000000) (hbase : base ≤ w.heap.size) :
    ∃ a' c' w', (Builtin.append_ #[30, 30] 30 #[v, .slice ad ys.length c]).run Tryd.prog w = .ok (.slice a' (xs.length + ys.length) c') w' ∧ OwP w' base 52 (.slice a' (xs.length + ys.length) c') (xs ++ ys) ∧ Ch (fun j => v.ownBlock = some j) w w' := by
  obtain ⟨i0, hi, hz0, hz1, hz2⟩ := info_parts Tryd.info52
  cases ad with
  | none =>
    have hy : ys = [] := by
      cases ys with
      | nil => rfl
      | cons y l => obtain ⟨_, _, he, _⟩ := hr 0 (by simp); cases he
    subst hy
    rw [hn rfl]
    obtain ⟨a', c', rfl, h1, _⟩ := hown.rd
    refine ⟨a', c', w, ?_, ?_, Ch.refl _ _⟩
    · exact run_append_owned_none w base 30 30 52 i0 2 (by kernel_rfl) hi _ xs.length (cellsI xs) hown
    · rw [List.append_nil]; exact hown
  | some ad =>
    have cells : ∀ j u, (cellsI ys)[j]? = some u → w.cell? (ad.add j) = some u := fun j u hj => by
      have hlt := (List.getElem?_eq_some_iff.1 hj).1
      rw [cellsI_length] at hlt
      obtain ⟨b', off', ha, h1, h2⟩ := hr (j / 2) (by omega)
      cases ha
      have he := cellsI_even ys (j / 2) (by omega)
      rw [Addr.add_lit]
      rcases Nat.mod_two_eq_zero_or_one j with hm | hm
      · have e : j / 2 * 2 = j := by omega
        rw [e] at h1
        rw [e] at he
        rw [h1, ← he.1, hj]
      · have e : j / 2 * 2 + 1 = j := by omega
        rw [Nat.add_assoc, e] at h2
        rw [e] at he
        rw [h2, ← he.2, hj]
    have one : ∀ u ∈ cellsI ys, u.oneCell' = true := fun u hu => by
      unfold cellsI at hu
      obtain ⟨x, _, hx⟩ := List.mem_flatMap.1 hu
      simp only [List.mem_cons, List.not_mem_nil, or_false] at hx
      rcases hx with rfl | rfl <;> rfl
    obtain ⟨v', w', h1, h2, h3, _⟩ := run_append_own (P := Tryd.prog) w base 30 30 52 i0 _ 2 32 (by kernel_rfl) hi hz0 hz1 hz2 rfl (by decide) v xs.length (cellsI xs) hown ad ys.length c (cellsI ys) (cellsI_length _) cells one (by unfold maxLen; omega) (by omega) hbase
    have ho : OwP w' base 52 v' (xs ++ ys) := by
      unfold OwP
      rw [List.length_append, cellsI_append]
      exact h2
    obtain ⟨a', c', hv, _⟩ := ho.rd
    rw [List.length_append] at hv
    subst hv
    exact ⟨a', c', w', h1, ho, Ch.of_grown h3 fun k hk => hk⟩
end Go.Proofs.YtfjlkphpeneahaaDoor
