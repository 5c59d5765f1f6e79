/- The walk of Append. -/
import Derived.Test.YtogihpofkjpokaaGreatDoorDFind
import Derived.BigQuiet
namespace Go.Proofs.YtogihpofkjpokaaGreatDoor.D4
open Go Go.RowKit Go.Maps
attribute [-go_sem] Builtin.append_

theorem put_put {α : Type} (n : List UInt8) (a b : α) : ∀ (l : List (List UInt8 × α)), put n a (put n b l) = put n a l
  | [] => by simp [put]
  | p :: r => by
    rw [put.eq_2 n b]
    split
    · rename_i e
      simp [put, e]
    · rename_i e
      split
      · rename_i hb
        simp [put, e, hb]
      · rename_i hb
        rw [put, if_neg e, if_neg hb, put, if_neg e, if_neg hb, put_put n a b r]

def Lg.go (l : Lg) : Bool := !l.lim || decide (0 < l.fuel)
def Lg.step (l : Lg) : Lg := if l.lim then (if 0 < l.fuel then { l with fuel := l.fuel - 1 } else { l with down := true }) else l
def Lg.old (l : Lg) (n : List UInt8) : List UInt8 × Nat := (look n l.fs).getD ([], 0)
def Lg.appC (l : Lg) (n s : List UInt8) : Int := if l.down then 3 else if nameB n then (if (l.room - l.used : Int) < (s.length : Int) then 2 else if l.go then 0 else 3) else 1
def Lg.app (l : Lg) (n s : List UInt8) : Lg := if l.down then l else if nameB n then (if (l.room - l.used : Int) < (s.length : Int) then l else if l.go then { l.step with fs := put n ((l.old n).1 ++ s, (l.old n).2) l.fs } else l.step) else l
theorem go_lg (s : S) : s.lg.go = s.go := rfl
theorem step_lg (s : S) : s.step.lg = s.lg.step := by
  have e : s.lg.step = if s.lim then (if 0 < s.fuel then { s.lg with fuel := s.fuel - 1 } else { s.lg with down := true }) else s.lg := rfl
  rw [e]
  unfold S.step
  split
  · split <;> rfl
  · rfl
theorem step_fs' (l : Lg) : l.step.fs = l.fs := by unfold Lg.step; split <;> (try split) <;> rfl
theorem step_old (l : Lg) (n : List UInt8) : l.step.old n = l.old n := by unfold Lg.old; rw [step_fs']

/-- A disk whose file of this name is there, new or not. -/
structure Got (w w' : World) (d : Nat) (s s2 : S) (n : List UInt8) (f : F) : Prop where
  at_ : At w' d s2
  look : look n s2.fs = some f
  old : f.lg = s.lg.old n
  head : s2.room = s.room ∧ s2.used = s.used ∧ s2.down = s.down ∧ s2.lim = s.lim ∧ s2.fuel = s.fuel
  put : ∀ x, put n x (on F.lg s2.fs) = put n x (on F.lg s.fs)
  ch : Ch (Foot d s) w w'
  foot : ∀ k, Foot d s2 k → Foot d s k ∨ w.heap.size ≤ k
theorem fileFor_any {w : World} {d : Nat} {s : S} (h : At w d s) (n : ByteArray) (hn : nameB n.data.toList = true) (hlen : s.fs.length < 1000000) :
    Calls Tryz.prog 104 #[dp d, .string n] w fun e w' => ∃ s2 f, e = .returned (dp f.blk) ∧ Got w w' d s s2 n.data.toList f := by
  cases hl : look n.data.toList s.fs with
  | some f =>
    refine (fileFor_old h n hn hl).mono ?_
    rintro e w' ⟨rfl, rfl⟩
    refine ⟨s, f, rfl, h, hl, ?_, ⟨rfl, rfl, rfl, rfl, rfl⟩, fun _ => rfl, Ch.refl _ _, fun k hk => .inl hk⟩
    show f.lg = (look n.data.toList (on F.lg s.fs)).getD ([], 0)
    rw [look_on, hl]; rfl
  | none =>
    have ho : s.lg.old n.data.toList = ([], 0) := by
      show (look n.data.toList (on F.lg s.fs)).getD ([], 0) = _
      rw [look_on, hl]; rfl
    cases hm : s.m with
    | some b =>
      refine (fileFor_new h n hn hl hlen hm).mono ?_
      rintro e w' ⟨g, rfl, hg, hA, hc⟩
      refine ⟨_, ⟨g, .slice none 0 0, [], 0⟩, rfl, hA, ?_, ho.symm, ⟨rfl, rfl, rfl, rfl, rfl⟩, fun x => ?_, hc.mono fun j _ e => .inr (.inl (by rw [e]; exact hm)), fun k hk => ?_⟩
      · rw [look_put _ _ _ _ h.asc, if_pos rfl]
      · rw [put_on, put_put]
      · rcases hk with e | e | ⟨p, hp, e⟩
        · exact .inl (.inl e)
        · exact .inl (.inr (.inl e))
        · rcases mem_put hp with rfl | hp
          · rcases e with rfl | e
            · exact .inr hg
            · cases e
          · exact .inl (.inr (.inr ⟨p, hp, e⟩))
    | none =>
      refine (fileFor_first h n hn hm).mono ?_
      rintro e w' ⟨g, rfl, hg, hA, hc⟩
      refine ⟨_, ⟨g, .slice none 0 0, [], 0⟩, rfl, hA, ?_, ho.symm, ⟨rfl, rfl, rfl, rfl, rfl⟩, fun x => ?_, hc.mono fun j hj e => e.elim (fun e => .inl e) fun e => by omega, fun k hk => ?_⟩
      · rw [look_put _ _ _ _ h.asc, if_pos rfl]
      · rw [put_on, put_put]
      · rcases hk with e | e | ⟨p, hp, e⟩
        · exact .inl (.inl e)
        · cases e; exact .inr (Nat.le_refl _)
        · rcases mem_put hp with rfl | hp
          · rcases e with rfl | e
            · exact .inr hg
            · cases e
          · exact .inl (.inr (.inr ⟨p, hp, e⟩))
/-- The end of an Append. -/
theorem app_end {w w2 w3 : World} {d : Nat} {s s2 : S} {n t : List UInt8} {f : F} {v' : Value} (g : Got w w2 d s s2 n f) (h1 : OwB w3 0 v' (f.data ++ t)) (h2 : Ch (fun j => f.v.ownBlock = some j) w2 w3)
    (h3 : v'.ownBlock = f.v.ownBlock ∨ v'.ownBlock = some w2.heap.size) (hM : s.used + (t.length : Int) ≤ 1073741824) :
    At ((w3.setCell ⟨f.blk, 0, none⟩ v').setCell ⟨d, 1, none⟩ (.int .i64 (s.used + (t.length : Int)))) d { s2 with used := s.used + (t.length : Int), fs := put n { f with v := v', data := f.data ++ t } s2.fs } ∧
      Ch (Foot d s) w ((w3.setCell ⟨f.blk, 0, none⟩ v').setCell ⟨d, 1, none⟩ (.int .i64 (s.used + (t.length : Int)))) ∧
      ∀ k, Foot d { s2 with used := s.used + (t.length : Int), fs := put n { f with v := v', data := f.data ++ t } s2.fs } k → Foot d s k ∨ w.heap.size ≤ k := by
  have hmem := look_mem g.look
  have hne : f.blk ≠ d := g.at_.file_ne hmem
  have hfile : File _ f := g.at_.file _ hmem
  have hn3 : ¬ f.v.ownBlock = some f.blk := fun e => g.at_.file_data hmem hmem e rfl
  have hd3 : ¬ f.v.ownBlock = some d := fun e => g.at_.data_ne hmem e rfl
  have hb3 : w3.heap[f.blk]? = some (.cells #[f.v, .int .i64 (f.sure : Int)] 112 (0, 0)) := (h2.block _ (lt_of_heap hfile.1) hn3).trans hfile.1
  have hb4 := heap_setCell_same w3 f.blk 0 _ 112 v' hb3
  have hd4 : (w3.setCell ⟨f.blk, 0, none⟩ v').heap[d]? = some (.cells s2.cells 62 (0, 0)) := (Below.heap_setCell _ _ _ _ hne.symm).trans ((h2.block _ (lt_of_heap g.at_.blk) hd3).trans g.at_.blk)
  have hd5 := heap_setCell_same _ d 1 _ 62 (.int .i64 (s.used + (t.length : Int))) hd4
  have hb5 := (Below.heap_setCell (w3.setCell ⟨f.blk, 0, none⟩ v') ⟨d, 1, none⟩ (.int .i64 (s.used + (t.length : Int))) f.blk hne).trans hb4
  have hC : Ch (fun k => k = d ∨ k = f.blk ∨ f.v.ownBlock = some k) w2 ((w3.setCell ⟨f.blk, 0, none⟩ v').setCell ⟨d, 1, none⟩ (.int .i64 (s.used + (t.length : Int)))) :=
    ((h2.mono fun _ _ e => .inr (.inr e)).tr (Ch.setCell _ _ _ fun _ => .inr (.inl rfl))).tr (Ch.setCell _ _ _ fun _ => .inl rfl)
  have hvne : ∀ k, v'.ownBlock = some k → k ≠ f.blk ∧ k ≠ d := fun k hk => by
    rcases h3 with e | e
    · rw [e] at hk; exact ⟨fun e => hn3 (e ▸ hk), fun e => hd3 (e ▸ hk)⟩
    · rw [e] at hk; cases hk
      exact ⟨fun e => by have hl0 : f.blk < w2.heap.size := lt_of_heap hfile.1; omega, fun e => by have := lt_of_heap g.at_.blk; omega⟩
  have hF : ∀ k, f.v.ownBlock = some k → Foot d s2 k := fun k hk => .inr (.inr ⟨_, hmem, .inr hk⟩)
  have hsz := g.ch.size
  refine ⟨g.at_.turn g.look rfl ⟨hb5, ?_, ?_⟩ hC hd5 ?_ ?_ hM, ?_, ?_⟩
  · refine (h1.keep (Ch.setCell (S := fun k => k = f.blk) _ _ _ fun _ => rfl) fun k hk => (hvne k hk).1).keep (Ch.setCell (S := fun k => k = d) _ _ _ fun _ => rfl) fun k hk => (hvne k hk).2
  · have := hfile.2.2
    show f.sure ≤ (f.data ++ t).length
    rw [List.length_append]; exact Nat.le_trans this (Nat.le_add_right _ _)
  · intro k hk
    have hk : v'.ownBlock = some k := hk
    rcases h3 with e | e
    · rw [e] at hk; exact .inl hk
    · rw [e] at hk; cases hk; exact .inr (Nat.le_refl _)
  · show s.used + (t.length : Int) + (f.data.length : Int) = s2.used + ((f.data ++ t).length : Int)
    rw [List.length_append, g.head.2.1]
    omega
  · refine g.ch.trans hC fun j hj e => ?_
    have : Foot d s2 j := by
      rcases e with rfl | rfl | e
      · exact .inl rfl
      · exact .inr (.inr ⟨_, hmem, .inl rfl⟩)
      · exact hF j e
    rcases g.foot j this with h | h
    · exact h
    · omega
  · rintro k (e | e | ⟨p, hp, e⟩)
    · exact .inl (.inl e)
    · exact g.foot k (.inr (.inl e))
    · rcases mem_put hp with rfl | hp
      · rcases e with e | e
        · exact g.foot k (.inr (.inr ⟨_, hmem, .inl e⟩))
        · have e : v'.ownBlock = some k := e
          rcases h3 with e' | e'
          · rw [e'] at e; exact g.foot k (hF k e)
          · rw [e'] at e; cases e; exact .inr hsz
      · exact g.foot k (.inr (.inr ⟨p, hp, e⟩))

theorem _root_.Go.Proofs.YtogihpofkjpokaaGreatDoor.OwB.shape {w : World} {base : Nat} {v : Value} {l : List UInt8} (h : OwB w base v l) : ∃ a c, v = .slice a l.length c := by
  rcases h.2 with ⟨hv, h0⟩ | ⟨g, cap, cur, hv, _⟩
  · exact ⟨none, 0, by rw [hv, h0]⟩
  · exact ⟨_, _, hv⟩
/-- What an Append of the last kind does, ahead of its walk. -/
theorem app_run {w w2 : World} {d : Nat} {s s2 : S} {n : List UInt8} {f : F} (g : Got w w2 d s s2 n f) (t : ByteArray) (hM : s.used + (t.size : Int) ≤ 1073741824) :
    ∃ a' l' c' w3, (∀ ty, (Builtin.append_ #[110, 9] ty #[f.v, .string t]).run Tryz.prog w2 = .ok (.slice a' l' c') w3) ∧
      w2.cell? ⟨f.blk, 0, none⟩ = some f.v ∧ w3.cell? ⟨f.blk, 0, none⟩ = some f.v ∧ w3.frozen? ⟨f.blk, 0, none⟩ = false ∧
      (w3.setCell ⟨f.blk, 0, none⟩ (.slice a' l' c')).cell? ⟨d, 1, none⟩ = some (.int .i64 s.used) ∧ (w3.setCell ⟨f.blk, 0, none⟩ (.slice a' l' c')).frozen? ⟨d, 1, none⟩ = false ∧
      ∃ s3, At ((w3.setCell ⟨f.blk, 0, none⟩ (.slice a' l' c')).setCell ⟨d, 1, none⟩ (.int .i64 (s.used + (t.size : Int)))) d s3 ∧ s3.lg = { s.lg with fs := put n ((s.lg.old n).1 ++ t.data.toList, (s.lg.old n).2) s.lg.fs } ∧
      Ch (Foot d s) w ((w3.setCell ⟨f.blk, 0, none⟩ (.slice a' l' c')).setCell ⟨d, 1, none⟩ (.int .i64 (s.used + (t.size : Int)))) ∧ ∀ k, Foot d s3 k → Foot d s k ∨ w.heap.size ≤ k := by
  have hmem := look_mem g.look
  have hne : f.blk ≠ d := g.at_.file_ne hmem
  have hfile : File _ f := g.at_.file _ hmem
  have hn3 : ¬ f.v.ownBlock = some f.blk := fun e => g.at_.file_data hmem hmem e rfl
  have hd3 : ¬ f.v.ownBlock = some d := fun e => g.at_.data_ne hmem e rfl
  have hl : f.data.length + t.size ≤ 2147483648 := by
    have h1 := total_mem hmem
    have h2 := g.at_.used
    have h3 := g.head.2.1
    omega
  obtain ⟨i0, hi, hz0, hz1, hz2⟩ := info_parts Tryz.info5
  obtain ⟨v', w3, hr, h1, h2, _⟩ := Lib.run_append_own_string (P := Tryz.prog) w2 0 110 9 0 5 i0 Tryz.underlying110 Tryz.underlying9 hi hz0 hz1 hz2 f.v f.data.length (f.data.map bv) hfile.2.1 t (by unfold maxLen; omega) (by omega) (Nat.zero_le _)
  have h3 := append_block_text hfile.2.1 t (by omega) hr
  have hO : OwB w3 0 v' (f.data ++ t.data.toList) := by
    unfold OwB
    rw [List.length_append, List.map_append, size_data]
    exact h1
  have hC : Ch (fun j => f.v.ownBlock = some j) w2 w3 := Ch.of_grown h2 fun k hk => hk
  have hb3 : w3.heap[f.blk]? = some (.cells #[f.v, .int .i64 (f.sure : Int)] 112 (0, 0)) := (hC.block _ (lt_of_heap hfile.1) hn3).trans hfile.1
  obtain ⟨a', c', rfl⟩ := hO.shape
  have hd4 : (w3.setCell ⟨f.blk, 0, none⟩ (.slice a' (f.data ++ t.data.toList).length c')).heap[d]? = some (.cells s2.cells 62 (0, 0)) := (Below.heap_setCell _ _ _ _ hne.symm).trans ((hC.block _ (lt_of_heap g.at_.blk) hd3).trans g.at_.blk)
  have hend := app_end (t := t.data.toList) g hO hC h3 (by rw [size_data]; exact hM)
  rw [size_data] at hend
  refine ⟨a', _, c', w3, fun _ => hr, cell_of_row _ _ _ _ _ _ hfile.1, cell_of_row _ _ _ _ _ _ hb3, frozen_of_row _ _ _ _ _ hb3, ?_, frozen_of_row _ _ _ _ _ hd4, _, hend.1, ?_, hend.2.1, hend.2.2⟩
  · rw [cell_of_row _ _ _ _ _ _ hd4, ← g.head.2.1]; rfl
  · have ho := g.old
    have hh := g.head
    show (⟨s2.room, s2.down, s2.lim, s2.fuel, on F.lg (put n { f with v := .slice a' (f.data ++ t.data.toList).length c', data := f.data ++ t.data.toList } s2.fs)⟩ : Lg) = _
    rw [put_on, g.put, hh.1, hh.2.2.1, hh.2.2.2.1, hh.2.2.2.2, ← ho]
    rfl

set_option maxRecDepth 100000 in
set_option maxHeartbeats 4000000 in
theorem append_at {w : World} {d : Nat} {s : S} (h : At w d s) (n t : ByteArray) (hlen : s.fs.length < 1000000) (ht : t.size ≤ 1000000000) :
    Calls Tryz.prog 85 #[dp d, .string n, .string t] w fun e w' => e = .returned (.int .i64 (s.lg.appC n.data.toList t.data.toList)) ∧ ∃ s3, At w' d s3 ∧ s3.lg = s.lg.app n.data.toList t.data.toList ∧ Ch (Foot d s) w w' ∧ ∀ k, Foot d s3 k → Foot d s k ∨ w.heap.size ≤ k := by
  have HD := Lib.hid (down_any h)
  have HN := Lib.hid (isName_any n w)
  unfold dp at HD
  unfold Lg.appC Lg.app
  rw [show s.lg.down = s.down from rfl]
  cases hd : s.down with
  | true =>
    rw [hd] at HD
    have H := Lib.hid h
    clear h hd
    unfold dp
    go_enter Tryz.func85, Tryz.ntmps85
    go_wp2_with (go_at_call 29; (with_reducible refine HD.out.mono ?_); rintro e w1 ⟨rfl, rfl⟩)
    go_ret
    exact ⟨rfl, s, H.out, rfl, Ch.refl _ _, fun k hk => .inl hk⟩
  | false =>
    rw [hd] at HD
    cases hn : nameB n.data.toList with
    | false =>
      rw [hn] at HN
      have H := Lib.hid h
      clear h hn
      unfold dp
      go_enter Tryz.func85, Tryz.ntmps85
      go_wp2_with (first | (go_at_call 29; (with_reducible refine HD.out.mono ?_); rintro e w1 ⟨rfl, rfl⟩) | (go_at_call 92; (with_reducible refine HN.out.mono ?_); rintro e w1 ⟨rfl, rfl⟩))
      go_ret
      exact ⟨rfl, s, H.out, rfl, Ch.refl _ _, fun k hk => .inl hk⟩
    | true =>
      rw [hn] at HN
      have c0 := h.c0
      have c1 := h.c1
      have hu := h.used
      have hmo := h.most
      have hro := h.room
      have hu0 : 0 ≤ s.used := by omega
      have hu1 : s.used ≤ 1073741824 := by omega
      have hro0 := hro.1
      have hro1 := hro.2
      have hus : (s.lg.used : Int) = s.used := by rw [used_lg]; exact hu.symm
      rw [hus, size_data, show s.lg.room = s.room from rfl]
      have H := Lib.hid h
      have HU : Hid (∀ W, At W d s → Calls Tryz.prog 102 #[dp d] W fun e w' => e = .returned (.bool s.go) ∧ At w' d s.step ∧ Ch (fun k => k = d) W w') := Lib.hid fun W h => useFuel_any h
      unfold dp at HU
      clear h hu hmo hro hus
      by_cases hbig : s.room - s.used < (t.size : Int)
      · simp only [hbig, if_true, Bool.false_eq_true, if_false]
        have hbig' : s.room - s.used < (t.size : Int) ∧ True := ⟨hbig, trivial⟩
        unfold dp
        go_enter Tryz.func85, Tryz.ntmps85
        go_wp2_with (first | (go_at_call 29; (with_reducible refine HD.out.mono ?_); rintro e w1 ⟨rfl, rfl⟩) | (go_at_call 92; (with_reducible refine HN.out.mono ?_); rintro e w1 ⟨rfl, rfl⟩))
        go_quiet (fail)
        go_wp2
        go_ret
        exact ⟨rfl, s, H.out.keep (Ch.drewN (fun _ => False) _ nq) fun _ _ => id, rfl, Ch.drewN _ _ nq, fun k hk => .inl hk⟩
      · have hbig' : (t.size : Int) ≤ s.room - s.used := by omega
        simp only [hbig, if_true, Bool.false_eq_true, if_false]
        have hM : s.used + (t.size : Int) ≤ 1073741824 := by omega
        have hw : IntKind.i64.wrap (s.used + (t.size : Int)) = s.used + (t.size : Int) := by simp [IntKind.wrap, IntKind.bits, IntKind.signed]; omega
        rw [go_lg, ← step_lg]
        have HF : Hid (∀ w1, At w1 d s.step → Calls Tryz.prog 104 #[dp d, .string n] w1 fun e w' => ∃ s2 f, e = .returned (dp f.blk) ∧ Got w1 w' d s.step s2 n.data.toList f) := Lib.hid fun w1 h1 => fileFor_any h1 n hn (by rw [step_fs]; exact hlen)
        have HR : Hid (∀ w1 w2 s2 f, Got w1 w2 d s.step s2 n.data.toList f → _) := Lib.hid fun w1 w2 s2 f g => app_run g t (by rw [step_used]; exact hM)
        rw [step_used] at HR
        unfold dp at HF ⊢
        clear hbig hM hn hd
        cases hg : s.go with
        | false =>
          rw [hg] at HU
          clear hg HF HR
          go_enter Tryz.func85, Tryz.ntmps85
          go_wp2_with (first | (go_at_call 29; (with_reducible refine HD.out.mono ?_); rintro e w1 ⟨rfl, rfl⟩) | (go_at_call 92; (with_reducible refine HN.out.mono ?_); rintro e w1 ⟨rfl, rfl⟩))
          go_quiet (fail)
          go_wp2_with fail
          have hD := Ch.drewN (Foot d s) w1 nq
          have HA := Lib.hid (H.out.keep (Ch.drewN (fun _ => False) w1 nq) fun _ _ => id)
          generalize hW : w1.drewN nq = W at hD HA
          go_wp2_with (go_at_call 102; (with_reducible refine (HU.out _ HA.out).mono ?_); rintro e w2 ⟨rfl, hA, hc⟩)
          go_ret
          exact ⟨rfl, s.step, hA, rfl, hD.tr (hc.mono fun _ _ e => .inl e), fun k hk => .inl (Foot.head (step_m s) (step_fs s) hk)⟩
        | true =>
          rw [hg] at HU
          clear hg
          go_enter Tryz.func85, Tryz.ntmps85
          go_wp2_with (first | (go_at_call 29; (with_reducible refine HD.out.mono ?_); rintro e w1 ⟨rfl, rfl⟩) | (go_at_call 92; (with_reducible refine HN.out.mono ?_); rintro e w1 ⟨rfl, rfl⟩))
          go_quiet (fail)
          have hD := Ch.drewN (Foot d s) w1 nq
          have HA := Lib.hid (H.out.keep (Ch.drewN (fun _ => False) w1 nq) fun _ _ => id)
          generalize w1.drewN nq = W at hD HA ⊢
          clear c0 c1 HD HN
          go_wp2_with (first | (go_at_call 102; (with_reducible refine (HU.out _ HA.out).mono ?_); rintro e w2 ⟨rfl, hA, hc⟩) | (go_at_call 104; (with_reducible refine (HF.out _ hA).mono ?_); rintro e w3 ⟨s2, f, rfl, g⟩; obtain ⟨a', l', c', w4, hr, k1, k2, k3, k4, k5, s3, hA3, hl3, hC3, hF3⟩ := HR.out _ _ _ _ g))
          go_ret
          exact ⟨rfl, s3, hA3, by rw [hl3, step_lg, step_old, step_fs'], (hD.trans (hc.mono fun _ _ e => Or.inl e) fun _ _ h => h).trans hC3 fun j _ hj => Foot.head (step_m s) (step_fs s) hj, fun k hk => (hF3 k hk).imp (Foot.head (step_m s) (step_fs s)) fun e => Nat.le_trans (Nat.le_trans hD.size hc.size) e⟩
theorem lg_len (s : S) : s.lg.fs.length = s.fs.length := on_length _ _
theorem append_any {w : World} {d : Nat} {l : Lg} {G : Nat → Prop} (h : Dk w d l G) (n t : ByteArray) (hlen : l.fs.length < 1000000) (ht : t.size ≤ 1000000000) :
    Calls Tryz.prog 85 #[dp d, .string n, .string t] w fun e w' => e = .returned (.int .i64 (l.appC n.data.toList t.data.toList)) ∧ Dk w' d (l.app n.data.toList t.data.toList) (More G w w') ∧ Ch G w w' := by
  obtain ⟨s, hA, rfl, hG⟩ := h
  refine (append_at hA n t (by rw [← lg_len]; exact hlen) ht).mono ?_
  rintro e w' ⟨rfl, s3, hA3, hl3, hc, hF⟩
  exact ⟨rfl, ⟨s3, hA3, hl3, fun k hk => (hF k hk).elim (fun h => .inl (hG k h)) fun h => .inr ⟨h, hA3.lt hk⟩⟩, hc.mono fun k _ h => hG k h⟩
end Go.Proofs.YtogihpofkjpokaaGreatDoor.D4
