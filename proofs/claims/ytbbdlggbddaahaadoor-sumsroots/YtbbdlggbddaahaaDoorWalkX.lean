/- Walks of the document's primes and Roots. -/
import Derived.Test.YtbbdlggbddaahaaDoorWalkV
namespace Go.Proofs.YtbbdlggbddaahaaDoor
open Go.RowKit

theorem primesF_step (f : Nat) (l : List Nat) (k n : Nat) (h : l.length < n) : primesF (f + 1) l k n = primesF f (if l.all (fun p => !(k % p == 0)) then l ++ [k] else l) (k + 1) n := by
  rw [primesF, if_pos h]
theorem primesF_end (f : Nat) (l : List Nat) (k n : Nat) (h : ¬ l.length < n) : primesF f l k n = l := by
  cases f with
  | zero => rfl
  | succ f => rw [primesF, if_neg h]
/-- No number of the list's first i divides k. -/
def noDiv (l : List Nat) (k i : Nat) : Bool := (l.take i).all (fun p => !(k % p == 0))
theorem noDiv_succ (l : List Nat) (k i : Nat) (h : i < l.length) : noDiv l k (i + 1) = (noDiv l k i && !(k % l.getD i 0 == 0)) := by
  unfold noDiv
  rw [List.take_add_one, List.getElem?_eq_getElem h, List.all_append]
  simp [List.getD_eq_getElem?_getD, List.getElem?_eq_getElem h]
theorem noDiv_all (l : List Nat) (k i : Nat) (h : l.length ≤ i) : noDiv l k i = l.all (fun p => !(k % p == 0)) := by
  unfold noDiv; rw [List.take_of_length_le h]
theorem q_tmod (a b : Nat) : (q a).tmod (q b) = q (a % b) := by
  unfold q; rw [Int.tmod_eq_emod_of_nonneg (by omega)]; simp
theorem q_one (k : Nat) (h : k < 100000) : IntKind.u64.wrap (q k + (1 : Int)) = q (k + 1) := by
  unfold q; rw [IntKind.wrap_u64]; omega
theorem q_ne {b : Nat} (h : 0 < b) : ¬ q b = (0 : Int) := by unfold q; omega

theorem own_cells {w : World} {base : Nat} {v : Value} {l : List Nat} (h : w.ownsRow base 41 1 v l.length (l.map qv)) : ∃ a cap, v = .slice a l.length cap ∧ ∀ i, i < l.length → ∃ g, a = some ⟨g, 0, none⟩ ∧ w.cell? ⟨g, i, none⟩ = some (.int .u64 (q (l.getD i 0))) := by
  by_cases hl : 0 < l.length
  · obtain ⟨g, cap, hv, _, hq⟩ := QC.of_own h hl
    exact ⟨_, cap, hv, fun i hi => ⟨g, rfl, hq.cell i hi⟩⟩
  · rcases h.2 with ⟨hv, h0⟩ | ⟨g, cap, cur, hv, _⟩
    · exact ⟨none, 0, by rw [hv, h0], fun i hi => absurd hi (by omega)⟩
    · exact ⟨_, cap, hv, fun i hi => absurd hi (by omega)⟩
section
variable {w : World} {o : Oper} {a : Act} {Q : Exit → Act → World → Prop}
/-- append of one number to a slice that the call made itself. -/
theorem wpList_q {ops : Array Oper} {rest : List Oper} (hgd : o.guard = none) (s x : Operand) (ho : o.op = .call { callee := .builtin .append, args := #[s, x], argTypes := #[44, 44] })
    (base : Nat) (v : Value) (l : List Nat) (hs : a.eval s = v) (hown : w.ownsRow base 41 1 v l.length (l.map qv)) (g : Nat) (k : Nat)
    (hx : a.eval x = .slice (some ⟨g, 0, none⟩) 1 1) (hrow : w.heap[g]? = some (.cells #[.int .u64 (q k)] 41 (0, 0))) (hlen : l.length + 1 ≤ 100000000) (hbase : base ≤ w.heap.size)
    (h : ∀ v' w', w'.ownsRow base 41 1 v' (l ++ [k]).length ((l ++ [k]).map qv) → w.grownBy w' v.ownBlock → wpList Tryd.prog ops Q rest (a.put o.dst v') w') : wpList Tryd.prog ops Q (o :: rest) a w := by
  obtain ⟨i0, hi, hz0, hz1, hz2⟩ := info_parts Tryd.info41
  refine wpList_append_own _ hgd s x 44 ho base 41 i0 (.int .u64 0) 1 8 Tryd.underlying44 hi hz0 hz1 hz2 rfl (by decide) v l.length (l.map qv) hs hown ⟨g, 0, none⟩ 1 1 [qv k] hx (by simp) ?_ ?_ (by unfold maxLen; omega) (by omega) hbase ?_
  · intro j y hj
    have e : (⟨g, 0, none⟩ : Addr).add j = ⟨g, j, none⟩ := by unfold Addr.add; split <;> simp_all
    rw [e, cell_of_row _ _ _ _ _ _ hrow]
    simpa [qv] using hj
  · intro y hy
    simp only [List.mem_singleton] at hy
    subst hy
    rfl
  · intro v' w' h1 h2 _
    exact h v' w' (by simpa using h1) h2
/-- append of one word to a slice that the call made itself. -/
theorem wpList_w {ops : Array Oper} {rest : List Oper} (hgd : o.guard = none) (s x : Operand) (ho : o.op = .call { callee := .builtin .append, args := #[s, x], argTypes := #[26, 26] })
    (base : Nat) (v : Value) (l : List (BitVec 32)) (hs : a.eval s = v) (hown : w.ownsRow base 28 1 v l.length (l.map wv)) (g : Nat) (k : BitVec 32)
    (hx : a.eval x = .slice (some ⟨g, 0, none⟩) 1 1) (hrow : w.heap[g]? = some (.cells #[.int .u32 (u k)] 28 (0, 0))) (hlen : l.length + 1 ≤ 100000000) (hbase : base ≤ w.heap.size)
    (h : ∀ v' w', w'.ownsRow base 28 1 v' (l ++ [k]).length ((l ++ [k]).map wv) → w.grownBy w' v.ownBlock → wpList Tryd.prog ops Q rest (a.put o.dst v') w') : wpList Tryd.prog ops Q (o :: rest) a w := by
  obtain ⟨i0, hi, hz0, hz1, hz2⟩ := info_parts Tryd.info28
  refine wpList_append_own _ hgd s x 26 ho base 28 i0 (.int .u32 0) 1 4 Tryd.underlying26 hi hz0 hz1 hz2 rfl (by decide) v l.length (l.map wv) hs hown ⟨g, 0, none⟩ 1 1 [wv k] hx (by simp) ?_ ?_ (by unfold maxLen; omega) (by omega) hbase ?_
  · intro j y hj
    have e : (⟨g, 0, none⟩ : Addr).add j = ⟨g, j, none⟩ := by unfold Addr.add; split <;> simp_all
    rw [e, cell_of_row _ _ _ _ _ _ hrow]
    simpa [wv] using hj
  · intro y hy
    simp only [List.mem_singleton] at hy
    subst hy
    rfl
  · intro v' w' h1 h2 _
    exact h v' w' (by simpa using h1) h2
end

set_option maxRecDepth 100000 in
set_option maxHeartbeats 4000000 in
theorem primes_any (n : Nat) (hn : n ≤ 64) (fin0 : List Nat) (hfin : primesF 400 [] 2 n = fin0) (hfl : fin0.length = n) (w : World) :
    Calls Tryd.prog 26 #[.int .i64 (n : Int)] w fun e w' => ∃ v, e = .returned v ∧ w'.ownsRow w.heap.size 41 1 v fin0.length (fin0.map qv) ∧ Kp w.heap.size w w' := by
  have HF := Lib.hid (And.intro hfin hfl)
  clear hfin hfl
  go_enter Tryd.func26, Tryd.ntmps26
  go_wp2
  go_loopw [3, 4] (fun v k wr => ∃ (kk : Nat) (l : List Nat), k = .int .u64 (q kk) ∧ 2 ≤ kk ∧ kk ≤ 402 ∧ Hid (primesF (402 - kk) l kk n = fin0 ∧ l.length ≤ n ∧ ∀ i, i < l.length → 0 < l.getD i 0) ∧ wr.ownsRow w.heap.size 41 1 v l.length (l.map qv) ∧ Kp w.heap.size w wr) (fun _ k _ => 402 - (intOf k).toNat)
  case atStart => exact ⟨2, [], rfl, by omega, by omega, Lib.hid ⟨HF.out.1, Nat.zero_le _, fun i hi => absurd hi (by simp)⟩, World.ownsRow_nil _ _ _ _, Kp.refl _ _⟩
  case round =>
    obtain ⟨kk, l, rfl, hk2, hk4, hH, hown, hkp⟩ := hrel
    obtain ⟨a, cap, rfl, hcell⟩ := own_cells hown
    have HC := Lib.hid hcell
    clear hcell
    by_cases hlt : l.length < n
    · have hlt' : (l.length : Int) < (n : Int) := by omega
      have hk402 : kk < 402 := by
        rcases Nat.lt_or_ge kk 402 with h | h
        · exact h
        · exfalso
          have h1 := hH.out.1
          rw [show 402 - kk = 0 by omega] at h1
          have h2 : l = fin0 := h1
          rw [h2, HF.out.2] at hlt
          omega
      have hl64 : l.length ≤ 64 := by omega
      go_wp2
      go_loopw [5, 6] (fun b i w3 => ∃ (ii : Nat), b = .bool (noDiv l kk ii) ∧ i = .int .i64 (ii : Int) ∧ ii ≤ l.length ∧ Hid (w3 = wr)) (fun _ i _ => l.length - (intOf i).toNat)
      case atStart => exact ⟨0, rfl, rfl, Nat.zero_le _, Lib.hid rfl⟩
      case round =>
        obtain ⟨ii, rfl, rfl, hi, hw⟩ := hrel
        have hw' := hw.out
        subst hw'
        clear hw
        by_cases hil : ii < l.length
        · have hil' : (ii : Int) < (l.length : Int) := by omega
          have hi0 : (0 : Int) ≤ (ii : Int) := by omega
          obtain ⟨g, rfl, hc⟩ := HC.out ii hil
          have hs := noDiv_succ l kk ii hil
          have hpos := hH.out.2.2 ii hil
          obtain ⟨b, hb⟩ : ∃ b, l.getD ii 0 = b := ⟨_, rfl⟩
          rw [hb] at hc hs hpos
          have HB := Lib.hid hb
          clear hb
          have hnz := q_ne hpos
          have HS := Lib.hid hs
          clear hs
          have f1 := q_tmod
          by_cases hd : kk % b = 0
          · have hd' : (q (kk % b) == (0 : Int)) = true := by rw [hd]; rfl
            have HD := Lib.hid hd
            clear hd
            go_wp2
            go_roundw
            case rel =>
              refine ⟨ii + 1, ?_, by go_num, by omega, by first | exact Lib.hid trivial | exact Lib.hid rfl⟩
              rw [HS.out, HD.out]; simp
            case measure => simp [intOf]; omega
          · have hd' : (q (kk % b) == (0 : Int)) = false := by
              simp only [beq_eq_false_iff_ne, ne_eq]; unfold q; omega
            have HD := Lib.hid hd
            clear hd
            go_wp2
            go_roundw
            case rel =>
              refine ⟨ii + 1, ?_, by go_num, by omega, by first | exact Lib.hid trivial | exact Lib.hid rfl⟩
              rw [HS.out, show (kk % b == 0) = false by simpa using HD.out]; simp
            case measure => simp [intOf]; omega
        · have hil' : (l.length : Int) ≤ (ii : Int) := by omega
          have hst := primesF_step (401 - kk) l kk n hlt
          rw [show 401 - kk + 1 = 402 - kk by omega, hH.out.1, ← noDiv_all l kk ii (by omega)] at hst
          have HST := Lib.hid hst
          clear hst
          have f1 := q_one kk (by omega)
          generalize noDiv l kk ii = bb at HST ⊢
          cases bb with
          | true =>
            go_wp2_with (at_builtin; refine wpList_q rfl (.tmp 27) (.tmp 29) rfl w.heap.size (.slice a l.length cap) l rfl (hown.alloc _) _ kk rfl (heap_alloc_new _ _) (by omega) ?_ ?_; (have := hkp.size; simp; omega); intro v' w3 hown3 hgr3)
            have hk3 : Kp w.heap.size w w3 := (hkp.alloc hkp.size _).trans (Below.kp ((Below.refl _ _).grown hgr3 (by have := hkp.size; simp; omega) (fun k hk => by have := (hown.lt k hk).1; omega)))
            clear hown hgr3 hkp
            go_wp2
            go_roundw
            case rel =>
              refine ⟨kk + 1, l ++ [kk], rfl, by omega, by omega, Lib.hid ⟨?_, by simp; omega, ?_⟩, hown3, hk3⟩
              · rw [show 402 - (kk + 1) = 401 - kk by omega, HST.out, if_pos rfl]
              · intro i hi
                by_cases h : i < l.length
                · rw [show (l ++ [kk]).getD i 0 = l.getD i 0 by simp [List.getD_eq_getElem?_getD, List.getElem?_append_left h]]
                  exact hH.out.2.2 i h
                · have : i = l.length := by simp at hi; omega
                  subst this
                  simp [List.getD_eq_getElem?_getD]; omega
            case measure => simp [intOf, q]; omega
          | false =>
            go_wp2
            go_roundw
            case rel =>
              refine ⟨kk + 1, l, rfl, by omega, by omega, Lib.hid ⟨?_, by omega, hH.out.2.2⟩, hown, hkp⟩
              rw [show 402 - (kk + 1) = 401 - kk by omega, HST.out, if_neg (by simp)]
            case measure => simp [intOf, q]; omega
    · have hlt' : (n : Int) ≤ (l.length : Int) := by omega
      have hl : Hid (l = fin0) := Lib.hid (by rw [← hH.out.1, primesF_end _ _ _ _ hlt])
      go_wp2
      go_ret
      refine ⟨_, rfl, ?_, hkp⟩
      rw [← hl.out]
      exact hown
end Go.Proofs.YtbbdlggbddaahaaDoor
