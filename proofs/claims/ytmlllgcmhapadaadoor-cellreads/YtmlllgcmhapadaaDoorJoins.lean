/- The walk of the law CellJoins. -/
import Derived.Test.YtmlllgcmhapadaaDoorAwake
import Derived.Laws.AppendOwnNone
namespace Go.Proofs.YtmlllgcmhapadaaDoor
open Go Go.RowKit
attribute [-go_sem] Builtin.append_

theorem Rd.cells {w : World} {ad : Addr} {ys : List V} (h : Rd w (some ad) ys) : ∀ j u, (cellsV ys)[j]? = some u → w.cell? (ad.add j) = some u := by
  intro j u hu
  have hj : j < ys.length * 3 := by
    have := (List.getElem?_eq_some_iff.1 hu).1
    rwa [cellsV_length] at this
  have hi : j / 3 < ys.length := by omega
  obtain ⟨b, off, he, c0, c1, c2⟩ := h (j / 3) hi
  obtain ⟨d0, d1, d2⟩ := cellsV_at ys (j / 3) hi
  injection he with he
  subst he
  have e : (⟨b, off, none⟩ : Addr).add j = ⟨b, off + j, none⟩ := by unfold Addr.add; split <;> simp_all
  rw [e]
  rcases (show j = j / 3 * 3 ∨ j = j / 3 * 3 + 1 ∨ j = j / 3 * 3 + 2 by omega) with h3 | h3 | h3
  · rw [h3] at hu ⊢; rw [d0] at hu; rw [c0]; exact hu
  · rw [h3] at hu ⊢; rw [d1] at hu; rw [← Nat.add_assoc, c1]; exact hu
  · rw [h3] at hu ⊢; rw [d2] at hu; rw [← Nat.add_assoc, c2]; exact hu
theorem cellsV_one (ys : List V) : ∀ u ∈ cellsV ys, u.oneCell' = true := by
  intro u hu
  obtain ⟨y, _, hy⟩ := List.mem_flatMap.1 hu
  simp only [V.cells, List.mem_cons, List.not_mem_nil, or_false] at hy
  rcases hy with rfl | rfl | rfl <;> rfl
section
variable {w : World} {o : Oper} {a : Act} {Q : Exit → Act → World → Prop}
/-- append of all values of another list. -/
theorem wpList_vals {ops : Array Oper} {rest : List Oper} (hgd : o.guard = none) (s x : Operand) (ho : o.op = .call { callee := .builtin .append, args := #[s, x], argTypes := #[27, 27] })
    (base : Nat) (v : Value) (xs : List V) (hs : a.eval s = v) (hown : OwV w base v xs) (ad : Option Addr) (c : Nat) (ys : List V) (hx : a.eval x = .slice ad ys.length c) (hr : Rd w ad ys) (hn : ad = none → c = 0)
    (hlen : xs.length + ys.length ≤ 100000000) (hbase : base ≤ w.heap.size)
    (h : ∀ v' w', OwV w' base v' (xs ++ ys) → Ch (fun j => v.ownBlock = some j) w w' → wpList Tryd.prog ops Q rest (a.put o.dst v') w') : wpList Tryd.prog ops Q (o :: rest) a w := by
  obtain ⟨i0, hi, hz0, hz1, hz2⟩ := info_parts Tryd.info23
  cases ad with
  | none =>
    have hy : ys = [] := by
      cases ys with
      | nil => rfl
      | cons y l => obtain ⟨_, _, he, _⟩ := hr 0 (by simp); cases he
    subst hy
    rw [hn rfl] at hx
    exact wpList_append_own_none hgd s x 27 ho base 23 i0 3 Tryd.underlying27 hi v xs.length (cellsV xs) hs hown hx (h v w (by simpa using hown) (Ch.refl _ _))
  | some ad =>
    refine wpList_append_own _ hgd s x 27 ho base 23 i0 _ 3 32 Tryd.underlying27 hi hz0 hz1 hz2 rfl (by decide) v xs.length (cellsV xs) hs hown ad ys.length c (cellsV ys) hx (cellsV_length ys) hr.cells (cellsV_one ys) (by unfold maxLen; omega) (by omega) hbase ?_
    intro v' w' h1 h2 _
    refine h v' w' ?_ (Ch.of_grown h2 fun k hk => hk)
    unfold OwV
    rw [cellsV_append, List.length_append]
    exact h1
end
/-- A list of none, in a block of its own. -/
theorem OwV.empty (w : World) (base : Nat) (h : base ≤ w.heap.size) : OwV (w.alloc (.cells #[] 23)) base (.slice (some ⟨w.heap.size, 0, none⟩) 0 0) [] :=
  ⟨rfl, .inr ⟨w.heap.size, 0, #[], rfl, h, heap_alloc_new w _, Nat.le_refl _, by unfold maxLen; omega, rfl, rfl⟩⟩
theorem tuple_app (xs ys : List V) (hx : xs.length ≤ 32) (hy : ys.length ≤ 32) : tupleB (xs ++ ys) = (tupleB xs && tupleB ys) := by
  unfold tupleB
  rw [List.length_append, List.all_append, decide_eq_true (show xs.length + ys.length ≤ 64 by omega), decide_eq_true (show xs.length ≤ 64 by omega), decide_eq_true (show ys.length ≤ 64 by omega)]
  simp
theorem keyT_app (xs ys : List V) (hx : tupleB xs = true) (hy : tupleB ys = true) (hb : tupleB (xs ++ ys) = true) : keyT (xs ++ ys) = txt (keyL xs ++ keyL ys) ∧ keyT xs = txt (keyL xs) ∧ keyT ys = txt (keyL ys) := by
  unfold keyT
  rw [if_pos hx, if_pos hy, if_pos hb]
  exact ⟨by simp [keyL], rfl, rfl⟩
theorem keyT_size (xs : List V) : (keyT xs).size ≤ 128192 := by
  unfold keyT
  split
  · rename_i h
    unfold tupleB at h
    rw [Bool.and_eq_true] at h
    have h1 := keyL_len xs h.2
    have h2 : xs.length ≤ 64 := by simpa using h.1
    rw [txt_size]
    omega
  · exact Nat.zero_le _
theorem few2 (w : World) (l1 l2 : Sl) (h1 : Rd w l1.a l1.xs) (h2 : Rd w l2.a l2.xs) (m1 : l1.xs.length ≤ maxLen) (m2 : l2.xs.length ≤ maxLen) :
    Calls Tryd.prog 14 #[.slice (some ⟨w.heap.size, 0, none⟩) 2 2] (w.alloc (.cells #[l1.val, l2.val] 27)) fun e w' => e = .returned (.bool (fewB l1.xs && fewB l2.xs)) ∧ Below w.heap.size w w' := by
  have hn := heap_alloc_new w (.cells #[l1.val, l2.val] 27)
  have hc := Ch.alloc (fun _ => False) w (.cells #[l1.val, l2.val] 27)
  refine (few_any w.heap.size 2 [l1, l2] (by simp) _ (fun i hi => ?_)).mono ?_
  · rcases (show i = 0 ∨ i = 1 by simp at hi; omega) with rfl | rfl
    · exact ⟨cell_of_row _ _ _ _ _ _ hn, h1.keep hc (fun _ _ => id), m1⟩
    · exact ⟨cell_of_row _ _ _ _ _ _ hn, h2.keep hc (fun _ _ => id), m2⟩
  · rintro e w' ⟨rfl, hb⟩
    exact ⟨ret_bool (by simp [fewL]), (hc.tr (Ch.of_new hb)).new⟩

set_option maxRecDepth 100000 in
set_option maxHeartbeats 4000000 in
theorem cellJoins_any (a b : Option Addr) (c d : Nat) (xs ys : List V) (w : World) (hE : Env w) (hx : Rd w a xs) (hy : Rd w b ys) (okx : ∀ x ∈ xs, x.ok) (oky : ∀ x ∈ ys, x.ok) (mx : xs.length ≤ maxLen) (my : ys.length ≤ maxLen) (na : a = none → c = 0) (nb : b = none → d = 0) :
    Calls Tryd.prog 7 #[.slice a xs.length c, .slice b ys.length d] w fun e w' => e = .returned (.bool true) ∧ Below w.heap.size w w' := by
  have HE := Lib.hid hE
  have HX := Lib.hid (And.intro hx (And.intro hy (And.intro okx (And.intro oky (And.intro na nb)))))
  have HF : Hid (∀ W, Below w.heap.size w W → Calls Tryd.prog 14 #[.slice (some ⟨W.heap.size, 0, none⟩) 2 2] (W.alloc (.cells #[.slice a xs.length c, .slice b ys.length d] 27)) fun e w' => e = .returned (.bool (fewB xs && fewB ys)) ∧ Below W.heap.size W w') :=
    Lib.hid (fun W hb => few2 W ⟨a, c, xs⟩ ⟨b, d, ys⟩ (hx.new hb) (hy.new hb) mx my)
  unfold maxLen at mx my
  clear hE hx hy okx oky na nb
  cases hf : (fewB xs && fewB ys) with
  | false =>
    rw [hf] at HF
    clear hf
    go_enter Tryd.func7, Tryd.ntmps7
    go_wp2_with fail
    refine (awake_any w HE.out).mono ?_
    rintro e w1 ⟨rfl, hb1⟩
    go_wp2_with fail
    refine (HF.out w1 hb1).mono ?_
    rintro e w2 ⟨rfl, hb2⟩
    have hB2 := hb1.trans (hb2.mono hb1.size)
    go_wp2
    go_ret
    exact ⟨rfl, hB2⟩
  | true =>
    rw [hf] at HF
    clear hf
    by_cases lx : xs.length ≤ 32
    · by_cases ly : ys.length ≤ 32
      · have lx' : (xs.length : Int) ≤ 32 := by omega
        have ly' : (ys.length : Int) ≤ 32 := by omega
        have HT := Lib.hid (tuple_app xs ys lx ly)
        have HT2 := Lib.hid (keyT_app xs ys)
        have hkl : (keyT xs).size + (keyT ys).size ≤ 1000000 := by
          have h1 := keyT_size xs
          have h2 := keyT_size ys
          omega
        have HKL := Lib.hid hkl
        obtain ⟨zs, hzs⟩ : ∃ zs, xs ++ ys = zs := ⟨_, rfl⟩
        rw [hzs] at HT HT2
        have HZ := Lib.hid hzs
        have hokz : ∀ z ∈ zs, z.ok := by
          intro z hz
          rw [← hzs] at hz
          rcases List.mem_append.1 hz with h | h
          · exact HX.out.2.2.1 z h
          · exact HX.out.2.2.2.1 z h
        have HOZ := Lib.hid hokz
        clear hzs hokz hkl
        go_enter Tryd.func7, Tryd.ntmps7
        go_wp2_with fail
        refine (awake_any w HE.out).mono ?_
        rintro e w1 ⟨rfl, hb1⟩
        go_wp2_with fail
        refine (HF.out w1 hb1).mono ?_
        rintro e w2 ⟨rfl, hb2⟩
        have hB2 := hb1.trans (hb2.mono hb1.size)
        clear hb1 hb2
        obtain ⟨m, hm⟩ := HE.out.1
        have HM := Lib.hid hm
        clear hm
        go_wp2_with fail
        refine (key_any m w2 ((Ch.of_new (S := fun _ => False) hB2).cell HM.out id) a c xs (HX.out.1.new hB2) HX.out.2.2.1).mono ?_
        rintro e w3 ⟨rfl, hb3⟩
        have hB3 := hB2.trans (hb3.mono hB2.size)
        clear hB2 hb3
        go_wp2_with fail
        refine (key_any m w3 ((Ch.of_new (S := fun _ => False) hB3).cell HM.out id) b d ys (HX.out.2.1.new hB3) HX.out.2.2.2.1).mono ?_
        rintro e w4 ⟨rfl, hb4⟩
        have hB4 := hB3.trans (hb4.mono hB3.size)
        clear hB3 hb4
        have hz4 := hB4.size
        go_wp2_with (first
          | (at_builtin; refine wpList_vals rfl (.tmp 39) (.tmp 40) rfl w.heap.size (.slice (some ⟨w4.heap.size, 0, none⟩) 0 0) [] rfl (OwV.empty w4 w.heap.size hz4) a c xs rfl ((HX.out.1.new hB4).keep (Ch.alloc (fun _ => False) _ _) (fun _ _ => id)) HX.out.2.2.2.2.1 (by simp; omega) (by simp; omega) ?_; intro v5 w5 ho5 hg5; have hc5 : Ch (fun _ => False) w w5 := ((Ch.of_new (S := fun _ => False) hB4).tr (Ch.alloc _ _ _)).trans hg5 (fun j hj h => by simp [Value.ownBlock] at h; omega); have hz5 := hc5.size; clear hg5)
          | (at_builtin; refine wpList_vals rfl (.tmp 41) (.tmp 42) rfl w.heap.size v5 ([] ++ xs) rfl ho5 b d ys rfl (HX.out.2.1.keep hc5 (fun _ _ => id)) HX.out.2.2.2.2.2 (by simp; omega) hz5 ?_; intro v6 w6 ho6 hg6; have hc6 : Ch (fun _ => False) w w6 := hc5.trans hg6 (fun j hj h => absurd (ho5.own j h).1 (by omega)); clear hg6; have ho7 : OwV w6 w.heap.size v6 zs := (by rw [← HZ.out]; exact ho6); obtain ⟨a6, c6, rfl, hr6, -, -⟩ := ho7.rd))
        refine (key_any m w6 (hc6.cell HM.out id) a6 c6 zs hr6 HOZ.out).mono ?_
        rintro e w7 ⟨rfl, hb7⟩
        have hB7 : Below w.heap.size w w7 := (hc6.tr (Ch.of_new hb7)).new
        clear hb7 hc6 hc5 hr6
        cases h1 : tupleB xs with
        | false =>
          have h3 : tupleB zs = false := by rw [HT.out, h1, Bool.false_and]
          rw [h3]
          clear h1 h3
          go_wp2
          go_ret
          exact ⟨rfl, hB7⟩
        | true =>
          cases h2 : tupleB ys with
          | false =>
            have h3 : tupleB zs = false := by rw [HT.out, h2, Bool.and_false]
            rw [h3]
            clear h1 h2 h3
            go_wp2
            go_ret
            exact ⟨rfl, hB7⟩
          | true =>
            have h3 : tupleB zs = true := by rw [HT.out, h1, h2]; rfl
            obtain ⟨e1, e2, e3⟩ := HT2.out h1 h2 h3
            rw [h3]
            have hc : binOp .add 9 (.string (keyT xs)) (.string (keyT ys)) = pure (.string (keyT zs)) := by
              have hk := HKL.out
              rw [e2, e3, txt_size, txt_size] at hk
              rw [e1, e2, e3]
              exact cat _ _ (by omega)
            generalize keyT xs = kx at *
            generalize keyT ys = ky at *
            generalize keyT zs = kz at *
            clear h1 h2 h3 e1 e2 e3
            go_wp2
            go_ret
            exact ⟨ret_bool (by simp), hB7⟩
      · have ly' : 32 < (ys.length : Int) := by omega
        have lx' : (xs.length : Int) ≤ 32 := by omega
        go_enter Tryd.func7, Tryd.ntmps7
        go_wp2_with fail
        refine (awake_any w HE.out).mono ?_
        rintro e w1 ⟨rfl, hb1⟩
        go_wp2_with fail
        refine (HF.out w1 hb1).mono ?_
        rintro e w2 ⟨rfl, hb2⟩
        have hB2 := hb1.trans (hb2.mono hb1.size)
        go_wp2
        go_ret
        exact ⟨rfl, hB2⟩
    · have lx' : 32 < (xs.length : Int) := by omega
      go_enter Tryd.func7, Tryd.ntmps7
      go_wp2_with fail
      refine (awake_any w HE.out).mono ?_
      rintro e w1 ⟨rfl, hb1⟩
      go_wp2_with fail
      refine (HF.out w1 hb1).mono ?_
      rintro e w2 ⟨rfl, hb2⟩
      have hB2 := hb1.trans (hb2.mono hb1.size)
      go_wp2
      go_ret
      exact ⟨rfl, hB2⟩
end Go.Proofs.YtmlllgcmhapadaaDoor
