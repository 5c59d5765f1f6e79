/- The walk of the law's texts: are two lists of texts the same? The walk of the law's Pairs. The walk of the law's Few. The walk of the law's Rising. The walk of the law's Same: are two lists of pairs the same? -/
import Derived.Test.YtfjlkphpeneahaaDoorTBase
import Derived.Test.YtfjlkphpeneahaaDoorDLev
import Derived.Test.YtfjlkphpeneahaaDoorM6
import Derived.ArgAppend
import Derived.Deep.Upon
import Derived.BigRegion
import Derived.BigQuiet
namespace Go.Proofs.YtfjlkphpeneahaaDoor
open Go Go.RowKit

set_option maxRecDepth 100000 in
set_option maxHeartbeats 1000000 in
theorem texts_any {w : World} {a b : Option Addr} {c d : Nat} {xs ys : List Bs} (hR : RdT w a xs) (hS : RdT w b ys) (hx : xs.length ≤ 1000000) (hy : ys.length ≤ 1000000) :
    Calls Tryd.prog 15 #[.slice a xs.length c, .slice b ys.length d] w fun e w' => e = .returned (.bool (decide (xs = ys))) ∧ w' = w := by
  have hx' : (xs.length : Int) ≤ 1000000 := by omega
  have hy' : (ys.length : Int) ≤ 1000000 := by omega
  by_cases hl : xs.length = ys.length
  · have HR := Lib.hid (And.intro hR hS)
    clear hR hS
    rw [← hl]
    have HL := Lib.hid hl
    clear hl hy hy'
    go_enter Tryd.func15, Tryd.ntmps15
    go_wp2
    go_loopw [5, 6, 14] (fun _ _ i wr => ∃ ii : Nat, i = .int .i64 (ii : Int) ∧ ii ≤ xs.length ∧ Hid (∀ j, j < ii → xs.getD j [] = ys.getD j []) ∧ wr = w) (fun _ _ i _ => xs.length - (intOf i).toNat)
    case atStart => exact ⟨0, rfl, Nat.zero_le _, Lib.hid (fun j hj => by omega), rfl⟩
    case round =>
      obtain ⟨ii, rfl, hi, HX, hw⟩ := hrel
      subst hw
      by_cases hlt : ii < xs.length
      · have hlt' : (ii : Int) < (xs.length : Int) := by omega
        have hi0 : (0 : Int) ≤ (ii : Int) := by omega
        obtain ⟨b1, off1, rfl, hc1⟩ := HR.out.1 ii hlt
        obtain ⟨b2, off2, rfl, hc2⟩ := HR.out.2 ii (by have := HL.out; omega)
        by_cases he : xs.getD ii [] = ys.getD ii []
        · have HX2 : Hid (∀ j, j < ii + 1 → xs.getD j [] = ys.getD j []) := Lib.hid fun j hj => by
            by_cases e : j = ii
            · rw [e]; exact he
            · exact HX.out j (by omega)
          rw [← he] at hc2
          clear he
          generalize txt (xs.getD ii []) = v at hc1 hc2
          go_wp2
          go_roundw
          case rel => exact ⟨ii + 1, by go_num, by omega, HX2, trivial⟩
          case measure => simp [intOf]; omega
        · have HN : Hid (decide (xs = ys) = false) := Lib.hid (decide_eq_false fun e => he (by rw [e]))
          generalize xs.getD ii [] = v at hc1 he
          generalize ys.getD ii [] = u at hc2 he
          have e1 := txt_eq v u
          rw [decide_eq_false he] at e1
          have e2 : ((txt v).toList != (txt u).toList) = true := by rw [bne, e1]; rfl
          have e3 : ¬ (txt v).toList = (txt u).toList := beq_eq_false_iff_ne.1 e1
          clear he
          generalize txt v = tv at *
          generalize txt u = tu at *
          go_wp2
          go_ret
          exact ⟨by rw [HN.out]; rfl, rfl⟩
      · have hlt' : (xs.length : Int) ≤ (ii : Int) := by omega
        have HN : Hid (decide (xs = ys) = true) := Lib.hid (decide_eq_true (List.ext_getElem HL.out fun j h1 h2 => by
          have := HX.out j (by omega)
          rwa [getD_at h1, getD_at h2] at this))
        go_wp2
        go_ret
        exact ⟨by rw [HN.out]; rfl, rfl⟩
  · have hne : ((xs.length : Int) != (ys.length : Int)) = true := by simp; omega
    have hne2 : ¬ (xs.length : Int) = (ys.length : Int) := by omega
    rw [decide_eq_false fun e => hl (by rw [e])]
    clear hR hS hl
    go_enter Tryd.func15, Tryd.ntmps15
    go_wp2
    go_ret
    exact ⟨rfl, rfl⟩
end Go.Proofs.YtfjlkphpeneahaaDoor
namespace Go.Proofs.YtfjlkphpeneahaaDoor
open Go Go.RowKit
attribute [-go_sem] Builtin.append_

set_option maxRecDepth 100000 in
set_option maxHeartbeats 2000000 in
theorem pairs_any {w : World} {a : Option Addr} {c : Nat} {l : List It} (hR : RdP w a l) (hl : l.length ≤ 1000000) :
    Calls Tryd.prog 13 #[.slice a l.length c] w fun e w' => ∃ v, e = .returned v ∧ OwP w' w.heap.size 52 v l ∧ Below w.heap.size w w' := by
  have hl' : (l.length : Int) ≤ 1000000 := by omega
  have HR := Lib.hid hR
  clear hR
  go_enter Tryd.func13, Tryd.ntmps13
  go_wp2
  go_loopw [3, 8] (fun v i wr => ∃ ii : Nat, i = .int .i64 (ii : Int) ∧ ii ≤ l.length ∧ Hid (OwP wr w.heap.size 52 v (l.take ii) ∧ Below w.heap.size w wr)) (fun _ i _ => l.length - (intOf i).toNat)
  case atStart => exact ⟨0, rfl, Nat.zero_le _, Lib.hid ⟨OwP.nil _ _ _, Below.refl _ _⟩⟩
  case round =>
    obtain ⟨ii, rfl, hi, HI⟩ := hrel
    have hwz := HI.out.2.size
    by_cases hlt : ii < l.length
    · have hlt' : (ii : Int) < (l.length : Int) := by omega
      have hi0 : (0 : Int) ≤ (ii : Int) := by omega
      obtain ⟨b, off, rfl, k1, k2⟩ := (HR.out.new HI.out.2) ii hlt
      have htk := take_itD hlt
      have hln : (l.take ii).length ≤ 1000000 := by rw [List.length_take]; omega
      obtain ⟨x, hx⟩ : ∃ x, itD l ii = x := ⟨_, rfl⟩
      rw [hx] at k1 k2 htk
      have HTK := Lib.hid htk
      clear hx htk
      obtain ⟨xk, xv⟩ := x
      dsimp only at k1 k2
      obtain ⟨tk, htk⟩ : ∃ tk, txt xk = tk := ⟨_, rfl⟩
      obtain ⟨tv, htv⟩ : ∃ tv, txt xv = tv := ⟨_, rfl⟩
      rw [htk] at k1
      rw [htv] at k2
      have HT := Lib.hid (And.intro htk htv)
      clear htk htv
      have h1 := (HI.out.1.new ((Below.refl wr.heap.size wr).alloc (Nat.le_refl _) (.cells #[.string tk, .string tv] 43)))
      have hO := h1.new ((Below.refl _ _).alloc (Nat.le_refl _) (.cells #[.string tk, .string tv] 52))
      clear h1
      have hrow : ((wr.alloc (.cells #[.string tk, .string tv] 43)).alloc (.cells #[.string tk, .string tv] 52)).heap[wr.heap.size + 1]? = some (.cells #[.string (txt xk), .string (txt xv)] 52 (0, 0)) := by
        rw [HT.out.1, HT.out.2]
        have := heap_alloc_new (wr.alloc (.cells #[.string tk, .string tv] 43)) (.cells #[.string tk, .string tv] 52)
        rwa [show (wr.alloc (.cells #[.string tk, .string tv] 43)).heap.size = wr.heap.size + 1 by simp] at this
      go_wp2_with (at_builtin; refine wpList_pair rfl (.tmp 12) (.tmp 18) 30 52 rfl (by kernel_rfl) Tryd.info52 w.heap.size _ _ rfl hO (wr.heap.size + 1) (xk, xv) (by simp [Act.eval]) hrow (by omega) (by simp; omega) ?_; intro v4 w4 o4 c4)
      have hb4 : Below w.heap.size wr w4 := ((((Below.refl wr.heap.size wr).alloc (Nat.le_refl _) _).alloc (by simp) _).mono hwz).trans (c4.below (by simp; omega) fun k hk e => by have := (HI.out.1.own k e).1; omega)
      go_roundw
      case rel => exact ⟨ii + 1, by go_num, by omega, Lib.hid ⟨by rw [HTK.out]; exact o4, HI.out.2.trans hb4⟩⟩
      case measure => simp [intOf]; omega
    · have hlt' : (l.length : Int) ≤ (ii : Int) := by omega
      have hv := HI.out.1
      rw [List.take_of_length_le (by omega)] at hv
      have HV := Lib.hid hv
      clear hv
      go_wp2
      go_ret
      exact ⟨_, rfl, HV.out, HI.out.2⟩
end Go.Proofs.YtfjlkphpeneahaaDoor
namespace Go.Proofs.YtfjlkphpeneahaaDoor
open Go Go.RowKit

/-- What the law lets in. -/
def Few (l : List It) : Prop := l.length ≤ 200 ∧ szL l ≤ 20000 ∧ ∀ x ∈ l, x.1.length ≤ 2000 ∧ x.2.length ≤ 8000
instance (l : List It) : Decidable (Few l) := by unfold Few; infer_instance
theorem sz_take {l : List It} {i : Nat} (h : i < l.length) : szL (l.take (i + 1)) = szL (l.take i) + ((itD l i).1.length + (itD l i).2.length) := by
  unfold szL
  rw [take_itD h, List.map_append, List.sum_append]; simp
theorem sz_take_le (l : List It) (i : Nat) : szL (l.take i) ≤ szL l := by
  have h : szL l = szL (l.take i) + szL (l.drop i) := by
    unfold szL
    rw [← List.sum_append, ← List.map_append, List.take_append_drop]
  omega
set_option maxRecDepth 100000 in
set_option maxHeartbeats 2000000 in
theorem few_any {w : World} {a : Option Addr} {c : Nat} {l : List It} (hR : RdP w a l) (hx : ∀ x ∈ l, x.1.length ≤ 140737488355328 ∧ x.2.length ≤ 140737488355328) (hl : l.length ≤ maxLen) :
    Calls Tryd.prog 10 #[.slice a l.length c] w fun e w' => e = .returned (.bool (decide (Few l))) ∧ Below w.heap.size w w' := by
  unfold maxLen at hl
  by_cases h1 : 200 < l.length
  · have h1' : (200 : Int) < (l.length : Int) := by omega
    rw [decide_eq_false (fun h : Few l => by have := h.1; omega)]
    clear hR hx h1 hl
    go_enter Tryd.func10, Tryd.ntmps10
    go_wp2
    go_ret
    exact ⟨rfl, Below.refl _ _⟩
  have h1' : (l.length : Int) ≤ 200 := by omega
  have HR := Lib.hid (And.intro hR (And.intro hx h1))
  clear hR hx h1 hl
  go_enter Tryd.func10, Tryd.ntmps10
  go_wp2
  go_loopw [3, 11] (fun n i wr => ∃ ii : Nat, i = .int .i64 (ii : Int) ∧ ii ≤ l.length ∧ n = .int .i64 ((szL (l.take ii) : Nat) : Int) ∧ Hid (szL (l.take ii) ≤ 20000 ∧ (∀ j, j < ii → (itD l j).1.length ≤ 2000 ∧ (itD l j).2.length ≤ 8000) ∧ Below w.heap.size w wr)) (fun _ i _ => l.length - (intOf i).toNat)
  case atStart => exact ⟨0, rfl, Nat.zero_le _, rfl, Lib.hid ⟨by simp [szL], fun j hj => by omega, Below.refl _ _⟩⟩
  case round =>
    obtain ⟨ii, rfl, hi, rfl, HT⟩ := hrel
    by_cases hlt : ii < l.length
    · have hlt' : (ii : Int) < (l.length : Int) := by omega
      have hi0 : (0 : Int) ≤ (ii : Int) := by omega
      obtain ⟨b, off, rfl, k1, k2⟩ := (HR.out.1.new HT.out.2.2) ii hlt
      have hxl := HR.out.2.1 _ (itD_mem hlt)
      have htt := sz_take hlt
      have HLE := Lib.hid (sz_take_le l (ii + 1))
      have HMEM := Lib.hid (fun h : Few l => h.2.2 _ (itD_mem hlt))
      have hb1 : Below w.heap.size w (wr.alloc (.cells #[.string (txt (itD l ii).1), .string (txt (itD l ii).2)] 43)) := HT.out.2.2.alloc HT.out.2.2.size _
      obtain ⟨x, hxx⟩ : ∃ x, itD l ii = x := ⟨_, rfl⟩
      have HXX := Lib.hid hxx
      rw [hxx] at k1 k2 hxl htt HMEM hb1
      clear hxx
      obtain ⟨xk, xv⟩ := x
      dsimp only at k1 k2 hxl htt HMEM hb1
      have hzk := txt_size xk
      have hzv := txt_size xv
      have ht := HT.out.1
      have HTT := Lib.hid htt
      obtain ⟨n, hn⟩ : ∃ n, szL (l.take ii) = n := ⟨_, rfl⟩
      rw [hn] at ht htt ⊢
      have ht' : (n : Int) ≤ 20000 := by omega
      have hxl1 : (xk.length : Int) ≤ 140737488355328 := by omega
      have hxl2 : (xv.length : Int) ≤ 140737488355328 := by omega
      have HB1 := Lib.hid hb1
      clear hb1
      by_cases h5 : n + (xk.length + xv.length) ≤ 20000
      · have h5' : (n : Int) + ((xk.length : Int) + (xv.length : Int)) ≤ 20000 := by omega
        by_cases h6 : xk.length ≤ 2000
        · have h6' : (xk.length : Int) ≤ 2000 := by omega
          by_cases h7 : xv.length ≤ 8000
          · have h7' : (xv.length : Int) ≤ 8000 := by omega
            have HN := Lib.hid (And.intro h5 (And.intro hn (And.intro h6 h7)))
            clear h5 h6 h7 htt hxl ht hn
            generalize txt xk = tk at *
            generalize txt xv = tv at *
            go_wp2
            go_roundw
            case rel =>
              refine ⟨ii + 1, by go_num, by omega, ?_, Lib.hid ⟨by rw [HTT.out, HN.out.2.1]; exact HN.out.1, fun j hj => ?_, HB1.out⟩⟩
              · rw [HTT.out, HN.out.2.1]
                go_num
              · by_cases e : j = ii
                · rw [e, HXX.out]; exact HN.out.2.2
                · exact HT.out.2.1 j (by omega)
            case measure => simp [intOf]; omega
          · have h7' : (8000 : Int) < (xv.length : Int) := by omega
            have HN : Hid (decide (Few l) = false) := Lib.hid (decide_eq_false fun h => h7 (HMEM.out h).2)
            clear h5 h6 h7 htt hxl ht hn
            generalize txt xk = tk at *
            generalize txt xv = tv at *
            go_wp2
            go_ret
            exact ⟨by rw [HN.out]; rfl, HB1.out⟩
        · have h6' : (2000 : Int) < (xk.length : Int) := by omega
          have HN : Hid (decide (Few l) = false) := Lib.hid (decide_eq_false fun h => h6 (HMEM.out h).1)
          clear h5 h6 htt hxl ht hn
          generalize txt xk = tk at *
          generalize txt xv = tv at *
          go_wp2
          go_ret
          exact ⟨by rw [HN.out]; rfl, HB1.out⟩
      · have h5' : (20000 : Int) < (n : Int) + ((xk.length : Int) + (xv.length : Int)) := by omega
        have HN : Hid (decide (Few l) = false) := Lib.hid (decide_eq_false fun h => by have h2 := h.2.1; have := HLE.out; omega)
        clear h5 htt hxl ht hn
        generalize txt xk = tk at *
        generalize txt xv = tv at *
        go_wp2
        go_ret
        exact ⟨by rw [HN.out]; rfl, HB1.out⟩
    · have hlt' : (l.length : Int) ≤ (ii : Int) := by omega
      have e : ii = l.length := by omega
      have HN : Hid (decide (Few l) = true) := Lib.hid (decide_eq_true ⟨by have := HR.out.2.2; omega, by have := HT.out.1; rwa [e, List.take_length] at this, fun x hx => by
        obtain ⟨j, hj, rfl⟩ := List.getElem_of_mem hx
        have := HT.out.2.1 j (by omega)
        rwa [itD_at hj] at this⟩)
      go_wp2
      go_ret
      exact ⟨by rw [HN.out]; rfl, HT.out.2.2⟩
end Go.Proofs.YtfjlkphpeneahaaDoor
namespace Go.Proofs.YtfjlkphpeneahaaDoor
open Go Go.RowKit
attribute [-go_sem] Builtin.append_

/-- Where a key would stand. -/
def posL (k : Bs) (out : List It) : Nat := out.length - (fromL k out).length
def insL (out : List It) (x : It) : List It := if posL x.1 out < out.length ∧ (itD out (posL x.1 out)).1 = x.1 then out else out.take (posL x.1 out) ++ ([x] ++ out.drop (posL x.1 out))
/-- By rising key, the first one of each. -/
def risL (l : List It) : List It := l.foldl insL []
theorem posL_eq {k : Bs} {out : List It} {j : Nat} (hj : j ≤ out.length) (h1 : ∀ i, i < j → ltL (itD out i).1 k = true) (h2 : j < out.length → ltL (itD out j).1 k = false) : posL k out = j := by
  unfold posL
  by_cases h : j < out.length
  · rw [fromL_at h h1 (h2 h), List.length_drop]; omega
  · rw [fromL_none fun i hi => h1 i (by omega)]; simp; omega
theorem insL_len (out : List It) (x : It) : (insL out x).length ≤ out.length + 1 := by
  unfold insL
  split
  · omega
  · have h : posL x.1 out ≤ out.length := by unfold posL; omega
    simp only [List.length_append, List.length_take, List.length_drop, List.length_singleton]
    omega
theorem ins_take {l : List It} {i : Nat} (h : i < l.length) : (l.take (i + 1)).foldl insL [] = insL ((l.take i).foldl insL []) (itD l i) := by
  rw [take_itD h, List.foldl_append]; rfl
theorem ins_len : ∀ (l out : List It), (l.foldl insL out).length ≤ out.length + l.length
  | [], _ => by simp
  | x :: l, out => by
    have h1 := ins_len l (insL out x)
    have h2 := insL_len out x
    rw [List.foldl_cons, List.length_cons]; omega
/-- append of pairs where there is no room. -/
theorem grow_pairs (W : World) (aA : Option Addr) (xs : List It) (hA : RdP W aA xs) (b off : Nat) (ys : List It) (c : Nat) (hB : RdP W (some ⟨b, off, none⟩) ys) (hy : ys ≠ []) (hs : xs.length + ys.length ≤ 1000000) :
    ∃ v' w', (Builtin.append_ #[22, 22] 22 #[.slice aA xs.length xs.length, .slice (some ⟨b, off, none⟩) ys.length c]).run Tryd.prog W = .ok v' w' ∧ OwP w' W.heap.size 43 v' (xs ++ ys) ∧ Below W.heap.size W w' := by
  have hyp := List.length_pos_iff.2 hy
  obtain ⟨i0, hi, hz0, hz1, hz2⟩ := info_parts Tryd.info43
  have cells : ∀ (p q : Nat) (zs : List It), RdP W (some ⟨p, q, none⟩) zs → ∀ j u, (cellsI zs)[j]? = some u → W.cell? ((⟨p, q, none⟩ : Addr).add j) = some u := fun p q zs hz j u hj => by
    have hlt := (List.getElem?_eq_some_iff.1 hj).1
    rw [cellsI_length] at hlt
    obtain ⟨b', off', ha, h1, h2⟩ := hz (j / 2) (by omega)
    cases ha
    have he := cellsI_even zs (j / 2) (by omega)
    rw [Addr.add_lit]
    rcases Nat.mod_two_eq_zero_or_one j with hm | hm
    · have e : j / 2 * 2 = j := by omega
      rw [e] at h1
      rw [e] at he
      rw [h1, ← he.1, hj]
    · have e : j / 2 * 2 + 1 = j := by omega
      rw [Nat.add_assoc, e] at h2
      rw [e] at he
      rw [h2, ← he.2, hj]
  have one : ∀ u ∈ cellsI ys, u.oneCell' = true := fun u hu => by
    unfold cellsI at hu
    obtain ⟨x, _, hx⟩ := List.mem_flatMap.1 hu
    simp only [List.mem_cons, List.not_mem_nil, or_false] at hx
    rcases hx with rfl | rfl <;> rfl
  cases aA with
  | none =>
    have h0 : xs = [] := by
      cases xs with
      | nil => rfl
      | cons x r => obtain ⟨_, _, e, _⟩ := hA 0 (by simp); cases e
    subst h0
    obtain ⟨v', w', hrun, h1, h2, _⟩ := run_append_own (P := Tryd.prog) W W.heap.size 22 22 43 i0 _ 2 32 (by kernel_rfl) hi hz0 hz1 hz2 rfl (by decide) (.slice none 0 0) 0 [] (World.ownsRow_nil _ _ _ _) ⟨b, off, none⟩ ys.length c (cellsI ys) (cellsI_length _) (cells b off ys hB) one (by unfold maxLen; omega) (by omega) (Nat.le_refl _)
    refine ⟨v', w', hrun, ?_, (Ch.of_grown (S := fun _ => False) h2 fun k hk => by cases hk).new⟩
    unfold OwP
    rw [List.length_append, cellsI_append]
    exact h1
  | some ad =>
    by_cases h0 : xs = []
    · subst h0
      obtain ⟨v', w', hrun, h1, h2⟩ := run_append_arg_grows (P := Tryd.prog) W 22 22 43 i0 _ 2 32 (by kernel_rfl) hi hz0 hz1 hz2 rfl (by decide) ad 0 0 [] rfl (fun j u h => by simp at h) ⟨b, off, none⟩ ys.length c (cellsI ys) (cellsI_length _) (cells b off ys hB) (by omega) (by unfold maxLen; omega) (by omega)
      refine ⟨v', w', hrun, ?_, (Ch.of_grown (S := fun _ => False) h2 fun k hk => by cases hk).new⟩
      unfold OwP
      rw [List.length_append, cellsI_append]
      exact h1
    · obtain ⟨p, q, e, _⟩ := hA 0 (List.length_pos_iff.2 h0)
      injection e with e
      subst e
      obtain ⟨v', w', hrun, h1, h2⟩ := run_append_arg_grows (P := Tryd.prog) W 22 22 43 i0 _ 2 32 (by kernel_rfl) hi hz0 hz1 hz2 rfl (by decide) ⟨p, q, none⟩ xs.length xs.length (cellsI xs) (cellsI_length _) (cells p q xs hA) ⟨b, off, none⟩ ys.length c (cellsI ys) (cellsI_length _) (cells b off ys hB) (by omega) (by unfold maxLen; omega) (by omega)
      refine ⟨v', w', hrun, ?_, (Ch.of_grown (S := fun _ => False) h2 fun k hk => by cases hk).new⟩
      unfold OwP
      rw [List.length_append, cellsI_append]
      exact h1
/-- append of no pairs. -/
theorem none_pairs (W : World) (b c m : Nat) (hc : m ≤ c) (aB : Option Addr) (cB : Nat) : (Builtin.append_ #[22, 22] 22 #[.slice (some ⟨b, 0, none⟩) m c, .slice aB 0 cB]).run Tryd.prog W = .ok (.slice (some ⟨b, 0, none⟩) m c) W := by
  obtain ⟨i0, hi, hz0, hz1, hz2⟩ := info_parts Tryd.info43
  refine run_append_nothing W 22 22 22 43 i0 (by kernel_rfl) hi _ _ _ hc _ ?_
  cases aB with
  | none => exact Src.ofNil W (e' := 43) (by kernel_rfl) cB
  | some ad => exact Src.ofSlice W (e' := 43) (by kernel_rfl) ad 0 cB [] (by simp) (fun j u h => by simp at h) (fun u h => by cases h)
theorem RdP.one (w : World) (x : It) : RdP (w.alloc (.cells #[.string (txt x.1), .string (txt x.2)] 43)) (some ⟨w.heap.size, 0, none⟩) [x] := fun i hi => by
  obtain rfl : i = 0 := by simpa using hi
  exact ⟨_, _, rfl, cell_of_row _ _ 0 _ _ _ (heap_alloc_new w _), cell_of_row _ _ 1 _ _ _ (heap_alloc_new w _)⟩
/-- Both appends. -/
theorem ins_run (W : World) (a0 : Option Addr) (out : List It) (c j : Nat) (hR : RdP W a0 out) (hc : out.length ≤ c) (hj : j ≤ out.length) (x : It) (hs : out.length ≤ 1000) :
    ∃ v1 w1 v2 w2, (Builtin.append_ #[22, 22] 22 #[.slice (some ⟨W.heap.size, 0, none⟩) 1 1, .slice (if c = j then a0 else a0.map (·.add (j * 2))) (out.length - j) (c - j)]).run Tryd.prog (W.alloc (.cells #[.string (txt x.1), .string (txt x.2)] 43)) = .ok v1 w1 ∧
      (Builtin.append_ #[22, 22] 22 #[.slice (if j = 0 then a0 else a0.map (·.add (0 * 2))) j j, v1]).run Tryd.prog w1 = .ok v2 w2 ∧ (∃ a' c', v2 = .slice a' (out.take j ++ ([x] ++ out.drop j)).length c' ∧ (out.take j ++ ([x] ++ out.drop j)).length ≤ c' ∧ RdP w2 a' (out.take j ++ ([x] ++ out.drop j))) ∧ Below W.heap.size W w2 := by
  have hb0 : Below W.heap.size W (W.alloc (.cells #[.string (txt x.1), .string (txt x.2)] 43)) := (Below.refl _ _).alloc (Nat.le_refl _) _
  have hR0 := hR.new hb0
  have hone := RdP.one W x
  have h1 : ∃ b off c1 w1, (Builtin.append_ #[22, 22] 22 #[.slice (some ⟨W.heap.size, 0, none⟩) 1 1, .slice (if c = j then a0 else a0.map (·.add (j * 2))) (out.length - j) (c - j)]).run Tryd.prog (W.alloc (.cells #[.string (txt x.1), .string (txt x.2)] 43)) = .ok (.slice (some ⟨b, off, none⟩) ([x] ++ out.drop j).length c1) w1 ∧ RdP w1 (some ⟨b, off, none⟩) ([x] ++ out.drop j) ∧ Below (W.alloc (.cells #[.string (txt x.1), .string (txt x.2)] 43)).heap.size (W.alloc (.cells #[.string (txt x.1), .string (txt x.2)] 43)) w1 := by
    by_cases hn : j = out.length
    · subst hn
      rw [Nat.sub_self, List.drop_length]
      exact ⟨_, _, _, _, none_pairs _ _ 1 1 (Nat.le_refl _) _ _, hone, Below.refl _ _⟩
    · have hcut := hR0.cut j c hc
      have hdl : (out.drop j).length = out.length - j := List.length_drop
      obtain ⟨p, q, hpe, _⟩ := hcut 0 (by omega)
      rw [hpe] at hcut ⊢
      obtain ⟨v1, w1, hrun, hO, hb⟩ := grow_pairs (W.alloc (.cells #[.string (txt x.1), .string (txt x.2)] 43)) (some ⟨W.heap.size, 0, none⟩) [x] hone p q (out.drop j) (c - j) hcut (by intro e; rw [e] at hdl; simp at hdl; omega) (by rw [hdl]; simp; omega)
      rw [hdl] at hrun
      obtain ⟨a1, c1, hv, hrd, _⟩ := hO.rd
      obtain ⟨p1, q1, hpe1, _⟩ := hrd 0 (by simp)
      rw [hpe1] at hrd hv
      subst hv
      exact ⟨p1, q1, c1, w1, hrun, hrd, hb⟩
  obtain ⟨b, off, c1, w1, hrun1, hrd1, hb1⟩ := h1
  have hbw := hb0.trans (hb1.mono hb0.size)
  have hA : RdP w1 (if j = 0 then a0 else a0.map (·.add (0 * 2))) (out.take j) := by
    have h := (hR.new hbw).cut 0 c hc
    rw [List.drop_zero] at h
    have h2 := h.take j
    by_cases h0 : j = 0
    · subst h0; exact RdP.nil _ _
    · rw [if_neg h0]
      rwa [if_neg (by omega)] at h2
  have htl : (out.take j).length = j := by rw [List.length_take]; omega
  obtain ⟨v2, w2, hrun2, hO2, hb2⟩ := grow_pairs w1 _ (out.take j) hA b off ([x] ++ out.drop j) c1 hrd1 (by simp) (by simp; omega)
  rw [htl] at hrun2
  obtain ⟨a', c', hv, hrd, hcc, _⟩ := hO2.rd
  exact ⟨_, w1, v2, w2, hrun1, hrun2, ⟨a', c', hv, hcc, hrd⟩, hbw.trans (hb2.mono hbw.size)⟩
theorem gen_w {P : Program} {c : Code} {Q : Exit → Act → World → Prop} {a : Act} {W0 : World} {R : World → Prop} (hR : R W0) (h : ∀ W, R W → Code.wp P c Q a W) : Code.wp P c Q a W0 := h W0 hR
/-- What the rounds keep. -/
structure RiI (w wr : World) (out : List It) (a : Option Addr) (c : Nat) : Prop where
  rd : RdP wr a out
  le : out.length ≤ c
  b : Below w.heap.size w wr
set_option maxRecDepth 100000 in
set_option maxHeartbeats 4000000 in
theorem rising_any {w : World} {a : Option Addr} {c : Nat} {l : List It} (hR : RdP w a l) (hl : l.length ≤ 999) :
    Calls Tryd.prog 11 #[.slice a l.length c] w fun e w' => ∃ a' c', e = .returned (.slice a' (risL l).length c') ∧ RdP w' a' (risL l) ∧ (risL l).length ≤ c' ∧ Below w.heap.size w w' := by
  have hl' : (l.length : Int) ≤ 999 := by omega
  have HR := Lib.hid hR
  clear hR
  go_enter Tryd.func11, Tryd.ntmps11
  go_wp2
  go_loopw [3, 9] (fun v i wr => ∃ (ii : Nat) (out : List It) (a' : Option Addr) (c' : Nat), i = .int .i64 (ii : Int) ∧ ii ≤ l.length ∧ v = .slice a' out.length c' ∧ Hid (out = (l.take ii).foldl insL []) ∧ Hid (RiI w wr out a' c')) (fun _ i _ => l.length - (intOf i).toNat)
  case atStart => exact ⟨0, [], none, 0, rfl, Nat.zero_le _, rfl, Lib.hid rfl, Lib.hid ⟨RdP.nil _ _, Nat.le_refl _, Below.refl _ _⟩⟩
  case round =>
    obtain ⟨ii, out, a0, c0, rfl, hi, rfl, HOUT, HI⟩ := hrel
    obtain ⟨wo, hwo⟩ : ∃ wo, wo = wr := ⟨_, rfl⟩
    subst hwo
    by_cases hlt : ii < l.length
    · have hlt' : (ii : Int) < (l.length : Int) := by omega
      have hi0 : (0 : Int) ≤ (ii : Int) := by omega
      obtain ⟨b, off, rfl, k1, k2⟩ := (HR.out.new HI.out.b) ii hlt
      have hol : out.length ≤ 1000 := by
        have := ins_len (l.take ii) []
        rw [← HOUT.out, List.length_take] at this
        simp at this
        omega
      have hol' : (out.length : Int) ≤ 1000 := by omega
      have HNX : Hid (∀ y, y = insL out (itD l ii) → y = (l.take (ii + 1)).foldl insL []) := Lib.hid fun y hy => by rw [ins_take hlt, ← HOUT.out, hy]
      obtain ⟨x, hx⟩ : ∃ x, itD l ii = x := ⟨_, rfl⟩
      rw [hx] at k1 k2 HNX
      clear hx
      obtain ⟨wa, hwa⟩ : ∃ wa, wa = wo.alloc (.cells #[.string (txt x.1), .string (txt x.2)] 43) := ⟨_, rfl⟩
      have hba : Below wo.heap.size wo wa := by rw [hwa]; exact (Below.refl _ _).alloc (Nat.le_refl _) _
      have hra : wa.heap[wo.heap.size]? = some (.cells #[.string (txt x.1), .string (txt x.2)] 43 (0, 0)) := by rw [hwa]; exact heap_alloc_new wo _
      have HWA : Hid (∀ V, Below wa.heap.size wa V → (V.cell? ⟨wo.heap.size, 0, none⟩ = some (.string (txt x.1)) ∧ V.cell? ⟨wo.heap.size, 1, none⟩ = some (.string (txt x.2))) ∧ RdP V a0 out ∧ Below w.heap.size w V) := Lib.hid fun V hV => by
        have h1 := (hV.block wo.heap.size (lt_of_heap hra)).trans hra
        have hb2 := hba.trans (hV.mono hba.size)
        exact ⟨⟨cell_of_row _ _ 0 _ _ _ h1, cell_of_row _ _ 1 _ _ _ h1⟩, HI.out.rd.new hb2, HI.out.b.trans (hb2.mono HI.out.b.size)⟩
      have hcc := HI.out.le
      obtain ⟨xk, xv⟩ := x
      dsimp only at *
      clear hra hba
      go_wp2
      rw [← hwa]
      go_loopw [6] (fun v wq => ∃ j : Nat, v = .int .i64 (j : Int) ∧ j ≤ out.length ∧ Hid ((∀ i, i < j → ltL (itD out i).1 xk = true) ∧ Below wa.heap.size wa wq)) (fun v _ => out.length - (intOf v).toNat)
      case atStart => exact ⟨0, rfl, Nat.zero_le _, Lib.hid ⟨fun i h => by omega, Below.refl _ _⟩⟩
      case round =>
        obtain ⟨j, rfl, hj, HQ⟩ := hrel
        obtain ⟨wq, hwq⟩ : ∃ wq, wq = wr := ⟨_, rfl⟩
        subst hwq
        obtain ⟨⟨x0, x1⟩, hRq, hbq⟩ := HWA.out _ HQ.out.2
        have HN : Hid (∀ q, Below wa.heap.size wa (wq.drewN q)) := Lib.hid fun q => HQ.out.2.trans ((Ch.drewN (fun _ => False) _ q).new.mono HQ.out.2.size)
        have HN2 : Hid (∀ p q, Below wa.heap.size wa ((wq.drewN p).drewN q)) := Lib.hid fun p q => (HN.out p).trans ((Ch.drewN (fun _ => False) _ q).new.mono (HN.out p).size)
        have hj0 : (0 : Int) ≤ (j : Int) := by omega
        have sA : ∀ V, (Instr.slice 22 (.slice a0 out.length c0) none (some (.int .i64 (j : Int))) (some (.int .i64 (j : Int)))).run Tryd.prog V = .ok (.slice (if j = 0 then a0 else a0.map (·.add (0 * 2))) j j) V := fun V => by
          rw [run_slice_hm (P := Tryd.prog) V 22 a0 out.length c0 (by kernel_rfl) .i64 .i64 _ _ (by omega) (by omega) (by omega)]
          show Result.ok (sliced _ 0 j j 2) V = _
          unfold sliced
          rfl
        have sB : ∀ V, (Instr.slice 22 (.slice a0 out.length c0) (some (.int .i64 (j : Int))) none none).run Tryd.prog V = .ok (.slice (if c0 = j then a0 else a0.map (·.add (j * 2))) (out.length - j) (c0 - j)) V := fun V => by
          rw [run_slice_l (P := Tryd.prog) V 22 a0 out.length c0 (by kernel_rfl) .i64 _ (by omega) (by omega)]
          show Result.ok (sliced _ j out.length c0 2) V = _
          unfold sliced
          rfl
        have HIR := Lib.hid (fun V h => ins_run V a0 out c0 j h hcc hj (xk, xv) hol)
        dsimp only at HIR
        generalize (if j = 0 then a0 else a0.map (·.add (0 * 2))) = aA at *
        generalize (if c0 = j then a0 else a0.map (·.add (j * 2))) = aB at *
        generalize out.length - j = mB at *
        generalize c0 - j = cB at *
        by_cases hjn : j < out.length
        · have hjn' : (j : Int) < (out.length : Int) := by omega
          have d1 : decide ((j : Int) < (out.length : Int)) = true := decide_eq_true hjn'
          obtain ⟨b2, off2, rfl, q1, q2⟩ := hRq j hjn
          have hless := less_txt (itD out j).1 xk
          have e1 := txt_eq (itD out j).1 xk
          have HPOS : Hid (ltL (itD out j).1 xk = false → posL xk out = j) := Lib.hid fun h => posL_eq hj HQ.out.1 fun _ => h
          have HJ : Hid (ltL (itD out j).1 xk = true → ∀ i, i < j + 1 → ltL (itD out i).1 xk = true) := Lib.hid fun h i hi => by
            by_cases e : i = j
            · rw [e]; exact h
            · exact HQ.out.1 i (by omega)
          cases hlx : ltL (itD out j).1 xk with
          | true =>
            rw [hlx] at hless
            have HJ2 := Lib.hid (HJ.out hlx)
            clear hlx hRq hbq e1 hcc
            generalize txt (itD out j).1 = tv at *
            generalize txt xk = tk at *
            go_wp2
            go_big_quiet (fail)
            go_wp2
            go_roundw
            case rel => exact ⟨j + 1, by go_num, by omega, Lib.hid ⟨HJ2.out, HN.out _⟩⟩
            case measure => simp [intOf]; omega
          | false =>
            rw [hlx] at hless
            have HP := Lib.hid (HPOS.out hlx)
            clear hlx
            by_cases heq : (itD out j).1 = xk
            · have HNS : Hid (out = insL out (xk, xv)) := Lib.hid (by
                unfold insL
                rw [if_pos]
                dsimp only
                rw [HP.out]
                exact ⟨hjn, heq⟩)
              rw [heq, decide_eq_true rfl] at e1
              rw [heq] at q1 hless
              clear heq hRq hbq hcc
              generalize txt xk = tk at *
              go_wp2
              go_big_quiet (fail)
              go_wp2
              go_big_quiet (fail)
              go_wp2
              refine ⟨⟨ii + 1, out, _, c0, by go_num, by omega, rfl, Lib.hid (HNX.out _ HNS.out), Lib.hid ?_⟩, by simp [intOf]; omega⟩
              have hz := HWA.out _ (HN.out (nq))
              obtain ⟨-, h1, h2⟩ := HWA.out _ (HN.out _)
              exact ⟨h1, HI.out.le, h2⟩
            · rw [decide_eq_false heq] at e1
              have e3 : ¬ (txt (itD out j).1).toList = (txt xk).toList := beq_eq_false_iff_ne.1 e1
              have HNS : Hid (∀ y, y = out.take j ++ ([(xk, xv)] ++ out.drop j) → y = insL out (xk, xv)) := Lib.hid fun y hy => by
                unfold insL
                rw [if_neg]
                · dsimp only; rw [HP.out]; exact hy
                · dsimp only; rw [HP.out]; exact fun h => heq h.2
              clear heq hRq hbq
              generalize txt (itD out j).1 = tv at *
              generalize txt xk = tk at *
              generalize txt xv = tx at *
              go_wp2
              go_big_quiet (fail)
              go_wp2
              go_big_quiet (fail)
              go_wp2
              refine gen_w (R := fun V => Below wa.heap.size wa V) (HN2.out _ _) (fun W hW => ?_)
              clear x0 x1 HN2
              obtain ⟨⟨x0, x1⟩, hRW, -⟩ := HWA.out _ hW
              obtain ⟨⟨y0, y1⟩, -, -⟩ := HWA.out _ hW.drew
              obtain ⟨v1, w1, v2, w2, r1, r2, hv2, hb2⟩ := HIR.out W.drew (hRW.new (Below.refl W.heap.size W).drew)
              have HE : Hid (∃ a' c', v2 = .slice a' (insL out (xk, xv)).length c' ∧ RiI w w2 (insL out (xk, xv)) a' c') := Lib.hid (by
                obtain ⟨a', c', e1, e2, e3⟩ := hv2
                rw [← HNS.out _ rfl]
                have h1 := (HWA.out _ hW.drew).2.2
                exact ⟨a', c', e1, e3, e2, h1.trans (hb2.mono h1.size)⟩)
              have r1d : (Builtin.append_ #[22, 22] 22 #[.slice (some ⟨W.heap.size, 0, none⟩) 1 1, .slice aB mB cB]).run Tryd.prog (W.alloc (.cells #[.string tk, .string tx] 43)).drew = .ok v1 w1 := r1
              clear hv2 hb2 hRW hW r1
              go_region
              all_goals (
                clear r1d r2
                go_wp2
                obtain ⟨a', c', e1, e2⟩ := HE.out
                refine ⟨⟨ii + 1, insL out (xk, xv), a', c', by go_num, by omega, e1, Lib.hid (HNX.out _ rfl), Lib.hid e2⟩, by simp [intOf]; omega⟩)
        · have hjn' : (out.length : Int) ≤ (j : Int) := by omega
          have d1 : decide ((j : Int) < (out.length : Int)) = false := decide_eq_false (by omega)
          have hje : j = out.length := by omega
          have HP : Hid (posL xk out = j) := Lib.hid (posL_eq hj HQ.out.1 fun h => by omega)
          have HNS : Hid (∀ y, y = out.take j ++ ([(xk, xv)] ++ out.drop j) → y = insL out (xk, xv)) := Lib.hid fun y hy => by
            unfold insL
            rw [if_neg]
            · dsimp only; rw [HP.out]; exact hy
            · dsimp only; rw [HP.out]; exact fun h => by omega
          clear hRq hbq hje
          generalize txt xk = tk at *
          generalize txt xv = tx at *
          go_wp2
          go_big_quiet (fail)
          go_wp2
          go_big_quiet (fail)
          go_wp2
          refine gen_w (R := fun V => Below wa.heap.size wa V) (HN2.out _ _) (fun W hW => ?_)
          clear x0 x1 HN2
          obtain ⟨⟨x0, x1⟩, hRW, -⟩ := HWA.out _ hW
          obtain ⟨⟨y0, y1⟩, -, -⟩ := HWA.out _ hW.drew
          obtain ⟨v1, w1, v2, w2, r1, r2, hv2, hb2⟩ := HIR.out W.drew (hRW.new (Below.refl W.heap.size W).drew)
          have HE : Hid (∃ a' c', v2 = .slice a' (insL out (xk, xv)).length c' ∧ RiI w w2 (insL out (xk, xv)) a' c') := Lib.hid (by
            obtain ⟨a', c', e1, e2, e3⟩ := hv2
            rw [← HNS.out _ rfl]
            have h1 := (HWA.out _ hW.drew).2.2
            exact ⟨a', c', e1, e3, e2, h1.trans (hb2.mono h1.size)⟩)
          have r1d : (Builtin.append_ #[22, 22] 22 #[.slice (some ⟨W.heap.size, 0, none⟩) 1 1, .slice aB mB cB]).run Tryd.prog (W.alloc (.cells #[.string tk, .string tx] 43)).drew = .ok v1 w1 := r1
          clear hv2 hb2 hRW hW r1
          go_region
          all_goals (
            clear r1d r2
            go_wp2
            obtain ⟨a', c', e1, e2⟩ := HE.out
            refine ⟨⟨ii + 1, insL out (xk, xv), a', c', by go_num, by omega, e1, Lib.hid (HNX.out _ rfl), Lib.hid e2⟩, by simp [intOf]; omega⟩)
    · have hlt' : (l.length : Int) ≤ (ii : Int) := by omega
      have e : ii = l.length := by omega
      have ho := HOUT.out
      rw [e, List.take_length] at ho
      have HO := Lib.hid ho
      clear ho
      go_wp2
      go_ret
      have ho := HO.out
      unfold risL
      rw [← ho]
      exact ⟨_, _, rfl, HI.out.rd, HI.out.le, HI.out.b⟩
end Go.Proofs.YtfjlkphpeneahaaDoor
namespace Go.Proofs.YtfjlkphpeneahaaDoor
open Go Go.RowKit

theorem itD_ext {xs ys : List It} (hl : xs.length = ys.length) (h : ∀ j, j < xs.length → itD xs j = itD ys j) : xs = ys :=
  List.ext_getElem hl fun j h1 h2 => by
    have := h j h1
    rwa [itD_at h1, itD_at h2] at this
set_option maxRecDepth 100000 in
set_option maxHeartbeats 2000000 in
theorem same_any {w : World} {a b : Option Addr} {c d : Nat} {xs ys : List It} (hR : RdP w a xs) (hS : RdP w b ys) (hx : xs.length ≤ 1000000) (hy : ys.length ≤ 1000000) :
    Calls Tryd.prog 19 #[.slice a xs.length c, .slice b ys.length d] w fun e w' => e = .returned (.bool (decide (xs = ys))) ∧ Below w.heap.size w w' := by
  have hx' : (xs.length : Int) ≤ 1000000 := by omega
  have hy' : (ys.length : Int) ≤ 1000000 := by omega
  by_cases hl : xs.length = ys.length
  · have HR := Lib.hid (And.intro hR hS)
    clear hR hS
    rw [← hl]
    have HL := Lib.hid hl
    clear hl hy hy'
    go_enter Tryd.func19, Tryd.ntmps19
    go_wp2
    go_loopw [14] (fun i wr => ∃ ii : Nat, i = .int .i64 (ii : Int) ∧ ii ≤ xs.length ∧ Hid ((∀ j, j < ii → itD xs j = itD ys j) ∧ Below w.heap.size w wr)) (fun i _ => xs.length - (intOf i).toNat)
    case atStart => exact ⟨0, rfl, Nat.zero_le _, Lib.hid ⟨fun j hj => by omega, Below.refl _ _⟩⟩
    case round =>
      obtain ⟨ii, rfl, hi, HX⟩ := hrel
      by_cases hlt : ii < xs.length
      · have hlt' : (ii : Int) < (xs.length : Int) := by omega
        have hi0 : (0 : Int) ≤ (ii : Int) := by omega
        have hwz := HX.out.2.size
        obtain ⟨b1, off1, rfl, p1, p2⟩ := (HR.out.1.new HX.out.2) ii hlt
        obtain ⟨b2, off2, rfl, q1, q2⟩ := (HR.out.2.new HX.out.2) ii (by have := HL.out; omega)
        have lt1 := World.block_lt_of_cell? _ _ q1
        have hbx : Below wr.heap.size wr (wr.alloc (.cells #[.string (txt (itD xs ii).1), .string (txt (itD xs ii).2)] 52)) := (Below.refl _ _).alloc (Nat.le_refl _) _
        have q1a := (Ch.of_new (S := fun _ => False) hbx).cell (p := ⟨b2, off2 + ii * 2, none⟩) q1 id
        have q2a := (Ch.of_new (S := fun _ => False) hbx).cell (p := ⟨b2, off2 + ii * 2 + 1, none⟩) q2 id
        have hr0 := heap_alloc_new wr (.cells #[.string (txt (itD xs ii).1), .string (txt (itD xs ii).2)] 52)
        have x0 : (wr.alloc (.cells #[.string (txt (itD xs ii).1), .string (txt (itD xs ii).2)] 52)).cell? ⟨wr.heap.size, 0, none⟩ = _ := cell_of_row _ _ 0 _ _ _ hr0
        have x1 : (wr.alloc (.cells #[.string (txt (itD xs ii).1), .string (txt (itD xs ii).2)] 52)).cell? ⟨wr.heap.size, 1, none⟩ = _ := cell_of_row _ _ 1 _ _ _ hr0
        have HN : Hid (∀ q, Below w.heap.size w ((wr.alloc (.cells #[.string (txt (itD xs ii).1), .string (txt (itD xs ii).2)] 52)).drewN q)) := Lib.hid fun q => HX.out.2.trans ((hbx.mono hwz).trans ((Ch.drewN (fun _ => False) _ q).new.mono (by simp; omega)))
        have HJ : Hid (itD xs ii = itD ys ii → ∀ j, j < ii + 1 → itD xs j = itD ys j) := Lib.hid fun h j hj => by
          by_cases e : j = ii
          · rw [e]; exact h
          · exact HX.out.1 j (by omega)
        have HNE : Hid (itD xs ii ≠ itD ys ii → decide (xs = ys) = false) := Lib.hid fun h => decide_eq_false fun e => h (by rw [e])
        have e1 := txt_eq (itD xs ii).1 (itD ys ii).1
        have e2 := txt_eq (itD xs ii).2 (itD ys ii).2
        clear hr0 hbx lt1 q1 q2
        generalize itD xs ii = x at *
        generalize itD ys ii = y at *
        obtain ⟨xk, xv⟩ := x
        obtain ⟨yk, yv⟩ := y
        dsimp only at *
        by_cases h1 : xk = yk
        · subst h1
          rw [decide_eq_true rfl] at e1
          have n1 : ((txt xk).toList != (txt xk).toList) = false := by rw [bne, e1]; rfl
          by_cases h2 : xv = yv
          · subst h2
            rw [decide_eq_true rfl] at e2
            have HJ2 := Lib.hid (HJ.out rfl)
            generalize txt xk = tk at *
            generalize txt xv = tv at *
            go_wp2
            go_big_quiet (fail)
            go_wp2
            go_roundw
            case rel => exact ⟨ii + 1, by go_num, by omega, Lib.hid ⟨HJ2.out, HN.out _⟩⟩
            case measure => simp [intOf]; omega
          · rw [decide_eq_false h2] at e2
            have n2 : ((txt xv).toList != (txt yv).toList) = true := by rw [bne, e2]; rfl
            have n3 : ¬ (txt xv).toList = (txt yv).toList := beq_eq_false_iff_ne.1 e2
            have HE := Lib.hid (HNE.out fun h => h2 (congrArg Prod.snd h))
            clear h2
            generalize txt xk = tk at *
            generalize txt xv = tv at *
            generalize txt yv = uv at *
            go_wp2
            go_big_quiet (fail)
            go_wp2
            go_ret
            exact ⟨by rw [HE.out]; rfl, HN.out _⟩
        · rw [decide_eq_false h1] at e1
          have n2 : ((txt xk).toList != (txt yk).toList) = true := by rw [bne, e1]; rfl
          have n3 : ¬ (txt xk).toList = (txt yk).toList := beq_eq_false_iff_ne.1 e1
          have HE := Lib.hid (HNE.out fun h => h1 (congrArg Prod.fst h))
          clear h1
          generalize txt xk = tk at *
          generalize txt yk = uk at *
          generalize txt xv = tv at *
          generalize txt yv = uv at *
          go_wp2
          go_big_quiet (fail)
          go_wp2
          go_ret
          exact ⟨by rw [HE.out]; rfl, HN.out _⟩
      · have hlt' : (xs.length : Int) ≤ (ii : Int) := by omega
        have HN : Hid (decide (xs = ys) = true) := Lib.hid (decide_eq_true (itD_ext HL.out fun j h1 => HX.out.1 j (by omega)))
        go_wp2
        go_ret
        exact ⟨by rw [HN.out]; rfl, HX.out.2⟩
  · have hne : ((xs.length : Int) != (ys.length : Int)) = true := by simp; omega
    have hne2 : ¬ (xs.length : Int) = (ys.length : Int) := by omega
    rw [decide_eq_false fun e => hl (by rw [e])]
    clear hR hS hl
    go_enter Tryd.func19, Tryd.ntmps19
    go_wp2
    go_ret
    exact ⟨rfl, Below.refl _ _⟩
end Go.Proofs.YtfjlkphpeneahaaDoor
