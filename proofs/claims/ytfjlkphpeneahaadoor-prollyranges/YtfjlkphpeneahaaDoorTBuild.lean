/- The walk of Build. -/
import Derived.Test.YtfjlkphpeneahaaDoorDLev
import Derived.Test.YtfjlkphpeneahaaDoorM1
namespace Go.Proofs.YtfjlkphpeneahaaDoor
open Go Go.RowKit
attribute [-go_sem] Builtin.append_

section
variable {w : World} {o : Oper} {a : Act} {Q : Exit → Act → World → Prop}
/-- append of a slice's texts. -/
theorem wpList_texts {ops : Array Oper} {rest : List Oper} (hgd : o.guard = none) (s x : Operand) (ho : o.op = .call { callee := .builtin .append, args := #[s, x], argTypes := #[27, 27] })
    (base : Nat) (v : Value) (xs : List (List UInt8)) (hs : a.eval s = v) (hown : OwT w base v xs) (b off c : Nat) (ys : List (List UInt8))
    (hx : a.eval x = .slice (some ⟨b, off, none⟩) ys.length c) (hrd : RdT w (some ⟨b, off, none⟩) ys) (hlen : xs.length + ys.length ≤ 100000000) (hbase : base ≤ w.heap.size)
    (h : ∀ v' w', OwT w' base v' (xs ++ ys) → Ch (fun j => v.ownBlock = some j) w w' → wpList Tryd.prog ops Q rest (a.put o.dst v') w') : wpList Tryd.prog ops Q (o :: rest) a w := by
  obtain ⟨i0, hi, hz0, hz1, hz2⟩ := info_parts Tryd.info9
  refine wpList_append_own _ hgd s x 27 ho base 9 i0 _ 1 16 Tryd.underlying27 hi hz0 hz1 hz2 rfl (by decide) v xs.length (xs.map sv) hs hown ⟨b, off, none⟩ ys.length c (ys.map sv) hx (by simp) ?_ ?_ (by unfold maxLen; omega) (by omega) hbase ?_
  · intro j z hj
    rw [List.getElem?_map] at hj
    cases hy : ys[j]? with
    | none => rw [hy] at hj; cases hj
    | some y =>
      rw [hy] at hj
      have hlt := (List.getElem?_eq_some_iff.1 hy).1
      obtain ⟨b', off', ha, hc⟩ := hrd j hlt
      cases ha
      show w.cell? (Addr.add ⟨b, off, none⟩ j) = some z
      rw [Addr.add_lit, hc, List.getD_eq_getElem?_getD, hy, ← hj]
      rfl
  · intro z hz
    obtain ⟨y, _, rfl⟩ := List.mem_map.1 hz
    rfl
  · intro v' w' h1 h2 _
    refine h v' w' ?_ (Ch.of_grown h2 fun k hk => hk)
    unfold OwT
    rw [List.length_append, List.map_append]
    exact h1
end
theorem OwT.blk {w : World} {base : Nat} {v : Value} {xs : List Bs} (h : OwT w base v xs) (h0 : xs ≠ []) : ∃ b c, v = .slice (some ⟨b, 0, none⟩) xs.length c ∧ RdT w (some ⟨b, 0, none⟩) xs := by
  obtain ⟨a, c, hv, hr, _⟩ := h.rd
  rcases h.2 with ⟨hv2, h2⟩ | ⟨g, cap, cur, hv2, _⟩
  · exact absurd (List.length_eq_zero_iff.1 h2) h0
  · rw [hv2] at hv
    injection hv with e1 e2 e3
    exact ⟨g, cap, hv2, e1 ▸ hr⟩
theorem OwT.single (w : World) (t : Bs) : OwT (w.alloc (.cells #[.string (txt t)] 9)) w.heap.size (.slice (some ⟨w.heap.size, 0, none⟩) 1 1) [t] := by
  unfold OwT
  exact ⟨rfl, .inr ⟨w.heap.size, 1, #[.string (txt t)], rfl, Nat.le_refl _, heap_alloc_new w _, Nat.le_refl _, by unfold maxLen; omega, rfl, rfl⟩⟩
/-- What the rounds up a tree keep. -/
structure BuI (w wr : World) (l m : List It) (lev : Nat) (acc : List Bs) (a : Option Addr) (c : Nat) (vn : Value) : Prop where
  up : UpS l lev m acc
  n : OwT wr w.heap.size vn acc
  b : Below w.heap.size w wr
  r : RdP wr a m
  c : m.length ≤ c
  room : acc.length + 1000 * (10 - lev) ≤ 20000
def lenOf : Value → Nat
  | .slice _ n _ => n
  | _ => 0
set_option maxRecDepth 100000 in
set_option maxHeartbeats 4000000 in
theorem build_any {w : World} (hK : S1.KR w) {a : Option Addr} {l : List It} {c : Nat} (hR : RdP w a l) (hc : l.length ≤ c) (hl : l.length ≤ 1000) (hs : szL l ≤ 40000) :
    Calls Tryd.prog 12 #[.slice a l.length c] w fun e w' => ∃ v, e = .returned (.tuple #[.string (txt (buildL l).1), v, .bool (mapOk l)]) ∧ OwT w' w.heap.size v (buildL l).2 ∧ Below w.heap.size w w' := by
  have hl' : (l.length : Int) ≤ 1000 := by omega
  have P26 := Lib.hid (mayMap_any (c := c) hR (by omega) (fun x hx => by have := sz_mem hx; omega))
  have HR := Lib.hid (And.intro hR (And.intro hK (And.intro hs hc)))
  have hlw : Below w.heap.size w w := Below.refl _ _
  clear hR hK hs hc
  unfold buildL
  cases hm : mapOk l with
  | false =>
    rw [hm] at P26
    rw [if_neg (by simp)]
    have HM := Lib.hid hm
    clear hm
    go_enter Tryd.func12, Tryd.ntmps12
    go_wp2_with (go_at_call 26; (with_reducible refine P26.out.mono ?_); rintro e w1 ⟨rfl, hb1⟩)
    go_ret3
    exact ⟨_, rfl, OwT.nil _ _, hb1⟩
  | true =>
    rw [hm] at P26
    rw [if_pos rfl]
    have HM := Lib.hid hm
    clear hm
    by_cases h0 : l = []
    · subst h0
      rw [show treeL [] = (sha (nodeL 0 []), [nodeL 0 []]) from rfl]
      have P27 : Hid (∀ V, Calls Tryd.prog 27 #[.int .i64 0, .slice none 0 0] V fun e w' => e = .returned (.string (txt (nodeL 0 []))) ∧ Below V.heap.size V w') := Lib.hid fun V => by
        have h := nodeBytes_any (w := V) 0 (by omega) (a := none) (xs := []) (c := 0) (fun i hi => absurd hi (by simp)) (Nat.le_refl _) (by simp) (by simp)
        exact h
      have P28 : Hid (∀ V, Below w.heap.size w V → Calls Tryd.prog 28 #[.string (txt (nodeL 0 []))] V fun e w' => e = .returned (.string (txt (sha (nodeL 0 [])))) ∧ Below V.heap.size V w') := Lib.hid fun V hV => print_txt _ (by decide) V (HR.out.2.1.step hV)
      obtain ⟨t0, ht0⟩ : ∃ t0, nodeL 0 [] = t0 := ⟨_, rfl⟩
      rw [ht0] at P27 P28 ⊢
      clear ht0
      have HT : Hid (∀ V : World, OwT (V.alloc (.cells #[.string (txt t0)] 9)) V.heap.size (.slice (some ⟨V.heap.size, 0, none⟩) 1 1) [t0]) := Lib.hid fun V => OwT.single V t0
      generalize txt t0 = tt0 at *
      generalize txt (sha t0) = ts0 at *
      rw [List.length_nil] at P26 ⊢
      go_enter Tryd.func12, Tryd.ntmps12
      go_wp2_with (first
        | (go_at_call 26; (with_reducible refine P26.out.mono ?_); rintro e w1 ⟨rfl, hb1⟩)
        | (go_at_call 27; (with_reducible refine (P27.out _).mono ?_); rintro e w2 ⟨rfl, hb2⟩; have hb12 := hb1.trans (hb2.mono hb1.size))
        | (go_at_call 28; (with_reducible refine (P28.out _ hb12).mono ?_); rintro e w3 ⟨rfl, hb3⟩))
      go_ret3
      have hb := hb12.trans (hb3.mono hb12.size)
      have ht := HT.out w3
      exact ⟨_, rfl, ⟨ht.1, ht.2.imp id fun ⟨q, cap, cur, h1, h2, h3⟩ => ⟨q, cap, cur, h1, by have := hb.size; omega, h3⟩⟩, hb.alloc hb.size _⟩
    · have hlp : 1 ≤ (l.length : Int) := by have := List.length_pos_iff.2 h0; omega
      have hbf : ((l.length : Int) == 0) = false := beq_eq_false_iff_ne.2 (by omega)
      have HS := Lib.hid (LvS.base hl (by omega) HM.out HR.out.2.2.1)
      go_enter Tryd.func12, Tryd.ntmps12
      go_wp2_with (go_at_call 26; (with_reducible refine P26.out.mono ?_); rintro e w1 ⟨rfl, hb1⟩)
      go_loopw [6, 7, 8] (fun vn va vl wr => ∃ (m : List It) (lev : Nat) (acc : List Bs) (a' : Option Addr) (c' : Nat), va = .slice a' m.length c' ∧ vl = .int .i64 (lev : Int) ∧ Hid (BuI w wr l m lev acc a' c' vn)) (fun _ va _ _ => lenOf va)
      case atStart => exact ⟨l, 0, [], a, c, rfl, rfl, Lib.hid ⟨UpS.start HS.out, OwT.nil _ _, hb1, HR.out.1.new hb1, HR.out.2.2.2, by simp⟩⟩
      case round =>
        obtain ⟨m, lev, acc, a', c', rfl, rfl, HI⟩ := hrel
        have hlo := HI.out.up.lo
        have hlo' : (lev : Int) ≤ 9 := by omega
        have P29 := Lib.hid (buildLevel_any (HR.out.2.1.step HI.out.b) lev HI.out.r HI.out.c (HI.out.up.s.ok (by omega)))
        have hst := HI.out.up.step HI.out.room
        have hup := HI.out.up.s.up
        have hll : (levelL lev m).length = (upsL lev m).length := by unfold levelL; rw [List.length_map, upsL_len]
        have hlf := hup.few
        have hlp2 := hup.pos
        have hal := HI.out.up.few
        by_cases h1 : (upsL lev m).length = 1
        · have h1' : ((upsL lev m).length : Int) = 1 := by omega
          have HE := Lib.hid (hst.1 h1)
          have P30 := Lib.hid (fun V => told_any (itD (upsL lev m) 0) (by have := told_len (hup.told (by omega) _ (itD_mem (l := upsL lev m) (i := 0) (by omega))); omega) V)
          have htd := told_len (hup.told (by omega) _ (itD_mem (l := upsL lev m) (i := 0) (by omega)))
          have hto : toldV (itD (upsL lev m) 0) = .tuple #[.string (txt (prn (itD (upsL lev m) 0))), .int .i64 (cnt (itD (upsL lev m) 0) : Int), .bool true] := by
            unfold toldV
            rw [if_pos (hup.told (by omega) _ (itD_mem (by omega)))]
          rw [hto] at P30
          have HPR := Lib.hid hto
          obtain ⟨x0, hx0⟩ : ∃ x0, itD (upsL lev m) 0 = x0 := ⟨_, rfl⟩
          rw [hx0] at P30 HE
          clear hst hto htd
          obtain ⟨xk, xv⟩ := x0
          unfold iv at P30
          dsimp only at P30
          obtain ⟨tp, htp⟩ : ∃ tp, txt (prn (xk, xv)) = tp := ⟨_, rfl⟩
          rw [htp] at P30
          have HTP := Lib.hid htp
          clear htp
          generalize cnt (xk, xv) = cp at *
          go_wp2_with (first
            | (go_at_call 29; (with_reducible refine P29.out.mono ?_); rintro e w2 ⟨v1, v2, rfl, o1, o2, hb2⟩; obtain ⟨b1, c1, rfl, hrd1⟩ := o1.blk (by intro e; rw [e] at hll; simp at hll; omega); obtain ⟨a2, c2, rfl, hrd2, hc2, -, ha2, -⟩ := o2.rd; have hN := HI.out.n.new hb2; have hz2 := hb2.size)
            | (at_builtin; refine wpList_texts rfl (.tmp 34) (.tmp 35) rfl w.heap.size _ acc rfl hN b1 0 c1 (levelL lev m) (by rw [hll, h1]; rfl) hrd1 (by omega) (by have := HI.out.b.size; omega) ?_; intro v3 w3 o3 c3; have hrd3 := hrd2.keep c3 (fun ad had e => by have := (ha2 ad had).1; have := (HI.out.n.own _ e).2; omega); obtain ⟨b2, off2, rfl, k0, k1⟩ := hrd3 0 (by omega); rw [hx0, Nat.zero_mul, Nat.add_zero] at k0 k1; dsimp only at k0 k1; have hz3 := c3.size)
            | (go_at_call 30; (with_reducible refine (P30.out _).mono ?_); rintro e w4 ⟨rfl, hb4⟩))
          go_ret3
          have hb3 := HI.out.b.trans ((hb2.mono HI.out.b.size).trans (c3.below (by have := HI.out.b.size; omega) fun k hk e => by have := (HI.out.n.own _ e).1; omega))
          rw [HE.out]
          dsimp only
          rw [HTP.out]
          exact ⟨v3, rfl, o3.new hb4, hb3.trans (hb4.mono hb3.size)⟩
        · have h1' : ¬ ((upsL lev m).length : Int) = 1 := by omega
          have HE := Lib.hid (hst.2 h1)
          clear hst h1
          go_wp2_with (first
            | (go_at_call 29; (with_reducible refine P29.out.mono ?_); rintro e w2 ⟨v1, v2, rfl, o1, o2, hb2⟩; obtain ⟨b1, c1, rfl, hrd1⟩ := o1.blk (by intro e; rw [e] at hll; simp at hll; omega); obtain ⟨a2, c2, rfl, hrd2, hc2, -, ha2, -⟩ := o2.rd; have hN := HI.out.n.new hb2; have hz2 := hb2.size)
            | (at_builtin; refine wpList_texts rfl (.tmp 34) (.tmp 35) rfl w.heap.size _ acc rfl hN b1 0 c1 (levelL lev m) (by rw [hll]; rfl) hrd1 (by omega) (by have := HI.out.b.size; omega) ?_; intro v3 w3 o3 c3; have hrd3 := hrd2.keep c3 (fun ad had e => by have := (ha2 ad had).1; have := (HI.out.n.own _ e).2; omega)))
          have hb3 := HI.out.b.trans ((hb2.mono HI.out.b.size).trans (c3.below (by have := HI.out.b.size; omega) fun k hk e => by have := (HI.out.n.own _ e).1; omega))
          go_roundw
          case rel => exact ⟨upsL lev m, lev + 1, acc ++ levelL lev m, a2, c2, rfl, by go_num, Lib.hid ⟨HE.out.1, o3, hb3, hrd3, hc2, HE.out.2.2⟩⟩
          case measure => exact HE.out.2.1
end Go.Proofs.YtfjlkphpeneahaaDoor
