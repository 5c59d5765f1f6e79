/- The walk of Both.Do. -/
import Derived.Test.YtceejjocimgbmaaTwo
import Derived.Deep.RegionHeld3
namespace Go.Proofs.Ytceejjocimgbmaa
open Go Go.RowKit Go.Maps

/-- An act. -/
structure Ac where
  what : Int
  n : Int
  name : ByteArray
  to : ByteArray
  keep : List Int
def Lg.act (l : Lg) (a : Ac) : Lg :=
  if a.what = 0 then l.app a.name.data.toList a.to.data.toList else if a.what = 1 then l.sync a.name.data.toList else if a.what = 2 then l.ren a.name.data.toList a.to.data.toList
  else if a.what = 3 then l.dele a.name.data.toList else if a.what = 4 then { l with lim := decide (0 ≤ a.n), fuel := a.n } else if a.what = 5 then l.fall a.keep
  else if a.what = 6 then { l with room := min (max a.n 0) 1073741824 } else l
theorem act_fine {l : Lg} (h : l.Fine) (a : Ac) : (l.act a).Fine := by
  unfold Lg.act
  split
  · exact app_fine _ _ h
  split
  · exact sync_fine _ h
  split
  · exact ren_fine _ _ h
  split
  · exact dele_fine _ h
  split
  · intro e; exact of_decide_eq_true e
  split
  · exact fall_fine _
  split
  · exact Fine.of h rfl rfl
  · exact h
theorem act_len (l : Lg) (a : Ac) : (l.act a).fs.length ≤ l.fs.length + 1 := by
  unfold Lg.act
  split
  · exact app_len _ _
  split
  · exact sync_len _
  split
  · exact ren_len _ _
  split
  · exact dele_len _
  split
  · exact Nat.le_succ _
  split
  · exact fall_len _
  split
  · exact Nat.le_succ _
  · exact Nat.le_succ _
def Ac.val (a : Ac) (ka : Option Addr) (kc : Nat) : Value := .agg #[.int .i64 a.what, .int .i64 a.n, .string a.name, .string a.to, .slice ka a.keep.length kc]
def Kb (K : Nat → Prop) (b : Nat) : Nat → Prop := fun k => K k ∨ k = b ∨ k = b + 1

set_option maxRecDepth 100000 in
set_option maxHeartbeats 8000000 in
theorem do_any {K : Nat → Prop} {base : Nat} {w0 w : World} {d r : Nat} {l : Lg} (h : T K base w0 w d r l l) (hf : l.Fine) (hlen : l.fs.length ≤ 1000) (a : Ac) (ht : a.to.size ≤ 1000000) (hn : -9223372036854775808 ≤ a.n ∧ a.n ≤ 9223372036854775807) (hw : -9223372036854775808 ≤ a.what ∧ a.what ≤ 9223372036854775807)
    (ka : Option Addr) (kc : Nat) (hK : RdI w ka a.keep) (hb : ∀ ad, ka = some ad → a.keep ≠ [] → ad.block < base) :
    Calls Try.prog 13 #[.agg #[dp d, dp r], a.val ka kc] w fun e w' => e = .returned (.bool true) ∧ T K base w0 w' d r (l.act a) (l.act a) := by
  have hok := h.ok hf
  obtain ⟨what, n, name, to, keep⟩ := a
  simp only at ht hn hw hK hb
  have hB : Below w.heap.size w ((w.alloc (.cells #[dp d, dp r] 34)).alloc (.cells #[.int .i64 what, .int .i64 n, .string name, .string to, .slice ka keep.length kc] 37)) := ((Below.refl _ _).alloc (Nat.le_refl _) _).alloc (by simp) _
  have hz : ((w.alloc (.cells #[dp d, dp r] 34)).alloc (.cells #[.int .i64 what, .int .i64 n, .string name, .string to, .slice ka keep.length kc] 37)).heap.size = w.heap.size + 2 := by simp
  have hP : T (Kb K w.heap.size) base ((w.alloc (.cells #[dp d, dp r] 34)).alloc (.cells #[.int .i64 what, .int .i64 n, .string name, .string to, .slice ka keep.length kc] 37)) ((w.alloc (.cells #[dp d, dp r] 34)).alloc (.cells #[.int .i64 what, .int .i64 n, .string name, .string to, .slice ka keep.length kc] 37)) d r l l :=
    h.push hB fun k hk => hk.elim .inl fun e => .inr (by rw [hz]; omega)
  have HX : Hid (∀ w2 l', T (Kb K w.heap.size) base ((w.alloc (.cells #[dp d, dp r] 34)).alloc (.cells #[.int .i64 what, .int .i64 n, .string name, .string to, .slice ka keep.length kc] 37)) w2 d r l' l' → T K base w0 w2 d r l' l') := Lib.hid fun w2 l' h2 => h.pop hB h2 fun k hk => .inl hk
  have r0 : ((w.alloc (.cells #[dp d, dp r] 34)).alloc (.cells #[.int .i64 what, .int .i64 n, .string name, .string to, .slice ka keep.length kc] 37)).heap[w.heap.size]? = some (.cells #[dp d, dp r] 34 (0, 0)) := (Below.heap_alloc _ _ _ (by simp)).trans (heap_alloc_new w _)
  have r1 : ((w.alloc (.cells #[dp d, dp r] 34)).alloc (.cells #[.int .i64 what, .int .i64 n, .string name, .string to, .slice ka keep.length kc] 37)).heap[w.heap.size + 1]? = some (.cells #[.int .i64 what, .int .i64 n, .string name, .string to, .slice ka keep.length kc] 37 (0, 0)) := by
    have := heap_alloc_new (w.alloc (.cells #[dp d, dp r] 34)) (.cells #[.int .i64 what, .int .i64 n, .string name, .string to, .slice ka keep.length kc] 37)
    rwa [show (w.alloc (.cells #[dp d, dp r] 34)).heap.size = w.heap.size + 1 by simp] at this
  have HKI := Lib.hid (hK.keep (Ch.of_new (S := fun _ => False) hB) fun _ _ => id)
  have HP := Lib.hid hP
  have HR := Lib.hid (And.intro r0 r1)
  have HBb := Lib.hid hb
  clear h hB hz hP r0 r1 hb hK
  unfold dp at HP HX HR HKI
  unfold Ac.val dp
  simp only
  go_enter Try.func13, Try.ntmps13
  go_wp2
  generalize (w.alloc (.cells #[.pointer (some ⟨d, 0, none⟩), .pointer (some ⟨r, 0, none⟩)] 34)).alloc (.cells #[.int .i64 what, .int .i64 n, .string name, .string to, .slice ka keep.length kc] 37) = W1 at *
  generalize w.heap.size = bb at *
  have q0 : W1.cell? ⟨bb, 0, none⟩ = some (.pointer (some ⟨d, 0, none⟩)) := cell_of_row _ _ _ _ _ _ HR.out.1
  have q1 : W1.cell? ⟨bb, 1, none⟩ = some (.pointer (some ⟨r, 0, none⟩)) := cell_of_row _ _ _ _ _ _ HR.out.1
  have a0 : W1.cell? ⟨bb + 1, 0, none⟩ = some (.int .i64 what) := cell_of_row _ _ _ _ _ _ HR.out.2
  have a1 : W1.cell? ⟨bb + 1, 1, none⟩ = some (.int .i64 n) := cell_of_row _ _ _ _ _ _ HR.out.2
  have a2 : W1.cell? ⟨bb + 1, 2, none⟩ = some (.string name) := cell_of_row _ _ _ _ _ _ HR.out.2
  have a3 : W1.cell? ⟨bb + 1, 3, none⟩ = some (.string to) := cell_of_row _ _ _ _ _ _ HR.out.2
  have a4 : W1.cell? ⟨bb + 1, 4, none⟩ = some (.slice ka keep.length kc) := cell_of_row _ _ _ _ _ _ HR.out.2
  have HC : Hid (∀ W lp lr, T (Kb K bb) base W1 W d r lp lr → W.cell? ⟨bb + 1, 1, none⟩ = some (.int .i64 n) ∧ W.cell? ⟨bb + 1, 2, none⟩ = some (.string name) ∧ W.cell? ⟨bb + 1, 3, none⟩ = some (.string to) ∧ W.cell? ⟨bb + 1, 4, none⟩ = some (.slice ka keep.length kc) ∧ RdI W ka keep) := Lib.hid fun W lp lr hW =>
    ⟨hW.cell a1 (.inr (.inr (.inr rfl))), hW.cell a2 (.inr (.inr (.inr rfl))), hW.cell a3 (.inr (.inr (.inr rfl))), hW.cell a4 (.inr (.inr (.inr rfl))), HKI.out.keep' hW.ch fun ad e hne he => by have := HBb.out ad e hne; omega⟩
  clear HR HKI
  go_quiet (fail)
  have HW := Lib.hid (HP.out.drewN nq)
  have hcl := HC.out _ _ _ HW.out
  have b0 : (W1.drewN nq).cell? ⟨bb + 1, 0, none⟩ = some (.int .i64 what) := a0
  generalize W1.drewN nq = W at *
  obtain ⟨b1, b2, b3, b4, -⟩ := hcl
  clear a1 a2 a3 a4 q0 q1 a0 HP
  by_cases h0 : what = 0
  · subst h0
    have HE : Hid (l.act ⟨0, n, name, to, keep⟩ = l.app name.data.toList to.data.toList) := Lib.hid rfl
    have HA := Lib.hid (fun V lr (hV : T (Kb K bb) base W1 V d r l lr) => tp_append hV name to hlen ht)
    have HB := Lib.hid (fun V lp (hV : T (Kb K bb) base W1 V d r lp l) => tr_append hV hok name to hlen ht)
    unfold dp at HA HB
    generalize l.appC name.data.toList to.data.toList = c at *
    generalize l.app name.data.toList to.data.toList = l2 at *
    go_wp2
    go_region_held3 (fun V => V.cell? ⟨bb + 1, 2, none⟩ = some (.string name) ∧ V.cell? ⟨bb + 1, 3, none⟩ = some (.string to))
      (first | exact ⟨b2, b3⟩ | exact ⟨(HC.out _ _ _ hA1).2.1, (HC.out _ _ _ hA1).2.2.1⟩ | exact ⟨(HC.out _ _ _ hB1).2.1, (HC.out _ _ _ hB1).2.2.1⟩ | exact ⟨(HC.out _ _ _ hA2).2.1, (HC.out _ _ _ hA2).2.2.1⟩ | exact ⟨(HC.out _ _ _ hB2).2.1, (HC.out _ _ _ hB2).2.2.1⟩)
      (first
        | (go_at_call 10; (with_reducible refine (HA.out _ _ HW.out.drew).mono ?_); rintro e w1 ⟨rfl, hA1⟩)
        | (go_at_call 10; (with_reducible refine (HA.out _ _ hB1).mono ?_); rintro e w2 ⟨rfl, hA2⟩)
        | (go_at_call 21; (with_reducible refine (HB.out _ _ HW.out.drew).mono ?_); rintro e w1 ⟨rfl, hB1⟩)
        | (go_at_call 21; (with_reducible refine (HB.out _ _ hA1).mono ?_); rintro e w2 ⟨rfl, hB2⟩))
    all_goals (
      go_wp2
      go_ret
      exact ⟨rfl, HX.out _ _ (by rw [HE.out]; exact hB2)⟩)
  by_cases h1 : what = 1
  · subst h1
    have HE : Hid (l.act ⟨1, n, name, to, keep⟩ = l.sync name.data.toList) := Lib.hid rfl
    have HA := Lib.hid (fun V lr (hV : T (Kb K bb) base W1 V d r l lr) => tp_sync hV name)
    have HB := Lib.hid (fun V lp (hV : T (Kb K bb) base W1 V d r lp l) => tr_sync hV hok name hlen)
    unfold dp at HA HB
    generalize l.syncC name.data.toList = c at *
    generalize l.sync name.data.toList = l2 at *
    go_wp2
    go_region_held3 (fun V => V.cell? ⟨bb + 1, 2, none⟩ = some (.string name))
      (first | exact b2 | exact (HC.out _ _ _ hA1).2.1 | exact (HC.out _ _ _ hB1).2.1 | exact (HC.out _ _ _ hA2).2.1 | exact (HC.out _ _ _ hB2).2.1)
      (first
        | (go_at_call 15; (with_reducible refine (HA.out _ _ HW.out.drew).mono ?_); rintro e w1 ⟨rfl, hA1⟩)
        | (go_at_call 15; (with_reducible refine (HA.out _ _ hB1).mono ?_); rintro e w2 ⟨rfl, hA2⟩)
        | (go_at_call 22; (with_reducible refine (HB.out _ _ HW.out.drew).mono ?_); rintro e w1 ⟨rfl, hB1⟩)
        | (go_at_call 22; (with_reducible refine (HB.out _ _ hA1).mono ?_); rintro e w2 ⟨rfl, hB2⟩))
    all_goals (
      go_wp2
      go_ret
      exact ⟨rfl, HX.out _ _ (by rw [HE.out]; exact hB2)⟩)
  by_cases h2 : what = 2
  · subst h2
    have HE : Hid (l.act ⟨2, n, name, to, keep⟩ = l.ren name.data.toList to.data.toList) := Lib.hid rfl
    have HA := Lib.hid (fun V lr (hV : T (Kb K bb) base W1 V d r l lr) => tp_rename hV name to hlen)
    have HB := Lib.hid (fun V lp (hV : T (Kb K bb) base W1 V d r lp l) => tr_rename hV hok name to hlen)
    unfold dp at HA HB
    generalize l.renC name.data.toList to.data.toList = c at *
    generalize l.ren name.data.toList to.data.toList = l2 at *
    go_wp2
    go_region_held3 (fun V => V.cell? ⟨bb + 1, 2, none⟩ = some (.string name) ∧ V.cell? ⟨bb + 1, 3, none⟩ = some (.string to))
      (first | exact ⟨b2, b3⟩ | exact ⟨(HC.out _ _ _ hA1).2.1, (HC.out _ _ _ hA1).2.2.1⟩ | exact ⟨(HC.out _ _ _ hB1).2.1, (HC.out _ _ _ hB1).2.2.1⟩ | exact ⟨(HC.out _ _ _ hA2).2.1, (HC.out _ _ _ hA2).2.2.1⟩ | exact ⟨(HC.out _ _ _ hB2).2.1, (HC.out _ _ _ hB2).2.2.1⟩)
      (first
        | (go_at_call 28; (with_reducible refine (HA.out _ _ HW.out.drew).mono ?_); rintro e w1 ⟨rfl, hA1⟩)
        | (go_at_call 28; (with_reducible refine (HA.out _ _ hB1).mono ?_); rintro e w2 ⟨rfl, hA2⟩)
        | (go_at_call 29; (with_reducible refine (HB.out _ _ HW.out.drew).mono ?_); rintro e w1 ⟨rfl, hB1⟩)
        | (go_at_call 29; (with_reducible refine (HB.out _ _ hA1).mono ?_); rintro e w2 ⟨rfl, hB2⟩))
    all_goals (
      go_wp2
      go_ret
      exact ⟨rfl, HX.out _ _ (by rw [HE.out]; exact hB2)⟩)
  by_cases h3 : what = 3
  · subst h3
    have HE : Hid (l.act ⟨3, n, name, to, keep⟩ = l.dele name.data.toList) := Lib.hid rfl
    have HA := Lib.hid (fun V lr (hV : T (Kb K bb) base W1 V d r l lr) => tp_delete hV name)
    have HB := Lib.hid (fun V lp (hV : T (Kb K bb) base W1 V d r lp l) => tr_delete hV hok name hlen)
    unfold dp at HA HB
    generalize l.syncC name.data.toList = c at *
    generalize l.dele name.data.toList = l2 at *
    go_wp2
    go_region_held3 (fun V => V.cell? ⟨bb + 1, 2, none⟩ = some (.string name))
      (first | exact b2 | exact (HC.out _ _ _ hA1).2.1 | exact (HC.out _ _ _ hB1).2.1 | exact (HC.out _ _ _ hA2).2.1 | exact (HC.out _ _ _ hB2).2.1)
      (first
        | (go_at_call 30; (with_reducible refine (HA.out _ _ HW.out.drew).mono ?_); rintro e w1 ⟨rfl, hA1⟩)
        | (go_at_call 30; (with_reducible refine (HA.out _ _ hB1).mono ?_); rintro e w2 ⟨rfl, hA2⟩)
        | (go_at_call 31; (with_reducible refine (HB.out _ _ HW.out.drew).mono ?_); rintro e w1 ⟨rfl, hB1⟩)
        | (go_at_call 31; (with_reducible refine (HB.out _ _ hA1).mono ?_); rintro e w2 ⟨rfl, hB2⟩))
    all_goals (
      go_wp2
      go_ret
      exact ⟨rfl, HX.out _ _ (by rw [HE.out]; exact hB2)⟩)
  by_cases h4 : what = 4
  · subst h4
    have HE : Hid (l.act ⟨4, n, name, to, keep⟩ = { l with lim := decide (0 ≤ n), fuel := n }) := Lib.hid rfl
    have HA := Lib.hid (tp_fuel HW.out n hn)
    have HS := Lib.hid (fun V (hV : T (Kb K bb) base W1 V d r { l with lim := decide (0 ≤ n), fuel := n } l) => hV.rset 2 (.int .i64 (max n (-1))) (l' := { l with lim := decide (0 ≤ n), fuel := n }) rfl (fun v => by
      have e : ({ l with lim := decide (0 ≤ n), fuel := n } : Lg).rfuel = max n (-1) := by
        unfold Lg.rfuel
        by_cases h : 0 ≤ n
        · simp [h]; omega
        · simp [h]; omega
      unfold Lg.rcells
      rw [e]
      rfl))
    unfold dp at HA
    go_wp2_with (go_at_call 18; (with_reducible refine HA.out.mono ?_); rintro e w1 ⟨rfl, hA1⟩; obtain ⟨d1, -, -, -, -⟩ := HC.out _ _ _ hA1; obtain ⟨s1, -, s2, s3⟩ := HS.out _ hA1; have HS3 := Lib.hid s3; clear s3)
    go_ret
    exact ⟨rfl, HX.out _ _ (by rw [HE.out]; exact HS3.out)⟩
  by_cases h5 : what = 5
  · subst h5
    have HE : Hid (l.act ⟨5, n, name, to, keep⟩ = l.fall keep) := Lib.hid rfl
    have HA := Lib.hid (tp_fall HW.out hlen ka kc keep (HC.out _ _ _ HW.out).2.2.2.2 HBb.out)
    have HB := Lib.hid (fun V lp (hV : T (Kb K bb) base W1 V d r lp l) => tr_fall hV hok hlen ka kc keep (HC.out _ _ _ hV).2.2.2.2)
    unfold dp at HA HB
    go_wp2_with (first
      | (go_at_call 16; (with_reducible refine HA.out.mono ?_); rintro e w1 ⟨rfl, hA1⟩; obtain ⟨-, -, -, d4, -⟩ := HC.out _ _ _ hA1; have HA1 := Lib.hid hA1; clear hA1)
      | (go_at_call 32; (with_reducible refine (HB.out _ _ HA1.out).mono ?_); rintro e w2 ⟨rfl, hB2⟩))
    go_ret
    exact ⟨rfl, HX.out _ _ (by rw [HE.out]; exact hB2)⟩
  by_cases h6 : what = 6
  · subst h6
    have HE : Hid (l.act ⟨6, n, name, to, keep⟩ = { l with room := min (max n 0) 1073741824 }) := Lib.hid rfl
    have HA := Lib.hid (tp_room HW.out n hn)
    have HS := Lib.hid (fun V (hV : T (Kb K bb) base W1 V d r { l with room := min (max n 0) 1073741824 } l) => hV.rset 1 (.int .i64 (max 0 (min n 1073741824))) (l' := { l with room := min (max n 0) 1073741824 }) rfl (fun v => by
      have e : max 0 (min n 1073741824) = min (max n 0) 1073741824 := by omega
      rw [e]
      rfl))
    unfold dp at HA
    go_wp2_with (go_at_call 33; (with_reducible refine HA.out.mono ?_); rintro e w1 ⟨rfl, hA1⟩; obtain ⟨d1, -, -, -, -⟩ := HC.out _ _ _ hA1; obtain ⟨-, s1, s2, s3⟩ := HS.out _ hA1; have HS3 := Lib.hid s3; clear s3)
    go_ret
    exact ⟨rfl, HX.out _ _ (by rw [HE.out]; exact HS3.out)⟩
  · have HE : Hid (l.act ⟨what, n, name, to, keep⟩ = l) := Lib.hid (by unfold Lg.act; simp only [h0, h1, h2, h3, h4, h5, h6, if_false])
    have g0 : (what == 0) = false := beq_eq_false_iff_ne.2 h0
    have g1 : (what == 1) = false := beq_eq_false_iff_ne.2 h1
    have g2 : (what == 2) = false := beq_eq_false_iff_ne.2 h2
    have g3 : (what == 3) = false := beq_eq_false_iff_ne.2 h3
    have g4 : (what == 4) = false := beq_eq_false_iff_ne.2 h4
    have g5 : (what == 5) = false := beq_eq_false_iff_ne.2 h5
    have g6 : (what == 6) = false := beq_eq_false_iff_ne.2 h6
    clear hw
    go_wp2
    go_ret
    exact ⟨rfl, HX.out _ _ (by rw [HE.out]; exact HW.out)⟩
end Go.Proofs.Ytceejjocimgbmaa
