/- The walks of remove, Delete and Rename. -/
import Derived.Test.YtogihpofkjpokaaGreatDoorDRead
import Derived.BigRegion
namespace Go.Proofs.YtogihpofkjpokaaGreatDoor.D4
open Go Go.RowKit Go.Maps

def Lg.dele (l : Lg) (n : List UInt8) : Lg := if l.findC n = 0 then (if l.go then { l.step with fs := del n l.fs } else l.step) else l
def Lg.renC (l : Lg) (n m : List UInt8) : Int := if l.down then 3 else if nameB m then l.syncC n else 1
def Lg.ren (l : Lg) (n m : List UInt8) : Lg := if l.down then l else if nameB m then (if l.findC n = 0 then (if l.go then { l.step with fs := put m (l.old n) (del n l.fs) } else l.step) else l) else l
/-- The ways of a call on a name. -/
theorem ways (l : Lg) (n : List UInt8) : (l.down = true ∧ l.findC n = 3) ∨ (l.down = false ∧ nameB n = false ∧ l.findC n = 1) ∨ (l.down = false ∧ nameB n = true ∧ look n l.fs = none ∧ l.findC n = 4) ∨ ∃ x, l.down = false ∧ nameB n = true ∧ look n l.fs = some x ∧ l.findC n = 0 ∧ l.old n = x := by
  unfold Lg.findC Lg.old
  cases l.down with
  | true => exact .inl ⟨rfl, rfl⟩
  | false =>
    cases nameB n with
    | false => exact .inr (.inl ⟨rfl, rfl, rfl⟩)
    | true =>
      cases look n l.fs with
      | none => exact .inr (.inr (.inl ⟨rfl, rfl, rfl, rfl⟩))
      | some x => exact .inr (.inr (.inr ⟨x, rfl, rfl, rfl, rfl, rfl⟩))
theorem sync_no {l : Lg} {n : List UInt8} {c : Int} (h : l.findC n = c) (hc : c ≠ 0) : l.syncC n = c ∧ l.sync n = l ∧ l.dele n = l := by
  unfold Lg.syncC Lg.sync Lg.dele
  rw [h, if_neg hc, if_neg hc, if_neg hc]
  exact ⟨rfl, rfl, rfl⟩
theorem sync_stop {l : Lg} {n : List UInt8} (h : l.findC n = 0) (hg : l.go = false) : l.syncC n = 3 ∧ l.sync n = l.step ∧ l.dele n = l.step := by
  unfold Lg.syncC Lg.sync Lg.dele
  rw [h, hg]
  exact ⟨rfl, rfl, rfl⟩
theorem sync_yes {l : Lg} {n : List UInt8} {x : List UInt8 × Nat} (h : l.findC n = 0) (hg : l.go = true) (ho : l.old n = x) : l.syncC n = 0 ∧ l.sync n = { l.step with fs := put n (x.1, x.1.length) l.step.fs } ∧ l.dele n = { l.step with fs := del n l.step.fs } := by
  unfold Lg.syncC Lg.sync Lg.dele
  rw [h, hg, ho, step_fs']
  exact ⟨rfl, rfl, rfl⟩

theorem ren_ways (l : Lg) (n m : List UInt8) : (l.down = true ∧ l.renC n m = 3 ∧ l.ren n m = l) ∨ (l.down = false ∧ nameB m = false ∧ l.renC n m = 1 ∧ l.ren n m = l) ∨
    (l.down = false ∧ nameB m = true ∧ l.renC n m = l.syncC n ∧ l.ren n m = if l.findC n = 0 then (if l.go then { l.step with fs := put m (l.old n) (del n l.step.fs) } else l.step) else l) := by
  unfold Lg.renC Lg.ren
  cases l.down with
  | true => exact .inl ⟨rfl, rfl, rfl⟩
  | false =>
    cases nameB m with
    | false => exact .inr (.inl ⟨rfl, rfl, rfl, rfl⟩)
    | true => exact .inr (.inr ⟨rfl, rfl, rfl, by rw [step_fs']; rfl⟩)
theorem del_asc' (l : Lg) (h : Asc l.fs) (n : List UInt8) : Asc (del n l.fs) := del_asc h

theorem _root_.Go.Proofs.YtogihpofkjpokaaGreatDoor.Ch.of_turned {w w' : World} {b : Nat} (h : w.mapTurned w' b) : Ch (fun k => k = b) w w' := by
  obtain ⟨es, clock, es', clock', hb, rfl⟩ := h
  refine ⟨rfl, rfl, rfl, by simp [ChangeMaps.setBlock], fun k _ hn => ?_⟩
  have hn : b ≠ k := fun e => hn e.symm
  simp [ChangeMaps.setBlock, hn]
theorem At.some_map {w : World} {d : Nat} {s : S} (h : At w d s) {n : List UInt8} {f : F} (hl : YtogihpofkjpokaaGreatDoor.D4.look n s.fs = some f) : ∃ b, s.m = some b := by
  cases hm : s.m with
  | none => rw [h.nomap hm] at hl; cases hl
  | some b => exact ⟨b, rfl⟩
set_option maxRecDepth 100000 in
set_option maxHeartbeats 4000000 in
theorem remove_some {w : World} {d : Nat} {s : S} (h : At w d s) (n : ByteArray) (hn : nameB n.data.toList = true) {f : F} (hl : look n.data.toList s.fs = some f) :
    Calls Tryz.prog 103 #[dp d, .string n] w fun e w' => e = .returned (.tuple #[]) ∧ At w' d { s with used := s.used - (f.data.length : Int), fs := del n.data.toList s.fs } ∧ Ch (fun k => k = d ∨ s.m = some k) w w' := by
  have hsz := name_len hn
  rw [size_data] at hsz
  have hL := h.look n (by omega)
  rw [hl] at hL
  simp only [ptr, Option.isSome_some, dp] at hL
  obtain ⟨b, hm⟩ := h.some_map hl
  have c1 := h.c1
  have c2 := h.c2
  have f1 := h.fr 1
  rw [hm] at c2 hL
  have hmem := look_mem hl
  have hfile : File w f := h.file _ hmem
  have k0 : w.cell? ⟨f.blk, 0, none⟩ = some f.v := cell_of_row _ _ _ _ _ _ hfile.1
  obtain ⟨a', c', k3⟩ := hfile.2.1.shape
  rw [k3] at k0
  have htot := total_mem hmem
  have hus := h.used
  have hmo := h.most
  have hu0 : (f.data.length : Int) ≤ s.used := by omega
  have hu1 : s.used ≤ 1073741824 := by omega
  have hw : IntKind.i64.wrap (s.used - (f.data.length : Int)) = s.used - (f.data.length : Int) := by simp [IntKind.wrap, IntKind.bits, IntKind.signed]; omega
  have hne := h.map_ne hm
  have HO : Hid ((w.setCell ⟨d, 1, none⟩ (.int .i64 (s.used - (f.data.length : Int)))).drew.ownsMap Tryz.prog 9 rdP b s.fs.length (dat (on F.blk s.fs))) := Lib.hid (ownsMap_keep (ownsMap_keep (h.map b hm) (Ch.set1 w d 1 _) hne) (Ch.drew (fun _ => False) _) id)
  have HK := Lib.hid (keyS n (by omega))
  have HE : Hid (∀ w', w'.ownsMap Tryz.prog 9 rdP b s.fs.length ((dat (on F.blk s.fs)).del (.string n.data.toList)) → (w.setCell ⟨d, 1, none⟩ (.int .i64 (s.used - (f.data.length : Int)))).drew.mapTurned w' b → At w' d { s with used := s.used - (f.data.length : Int), fs := del n.data.toList s.fs } ∧ Ch (fun k => k = d ∨ s.m = some k) w w') := Lib.hid (by
    intro w' ho ht
    have hC := Ch.of_turned ht
    have hC2 : Ch (fun k => k = d ∨ k = b) w w' := ((Ch.mono (Ch.set1 w d 1 (.int .i64 (s.used - (f.data.length : Int)))) fun _ _ e => Or.inl e).tr (Ch.drew _ _)).tr (hC.mono fun _ _ e => Or.inr e)
    refine ⟨h.gone hl hm hC2 ((hC.block d ?_ (fun e => hne e.symm)).trans (h.set 1 _)) ho (by omega), hC2.mono fun k _ e => e.imp id fun e => by rw [hm, e]⟩
    have := lt_of_heap (h.set 1 (.int .i64 (s.used - (f.data.length : Int))))
    exact this)
  clear h hl hfile hmem htot hus hmo k3 hm
  unfold dp
  go_enter Tryz.func103, Tryz.ntmps103
  go_wp2
  go_region
  all_goals (
    go_wp2_with (at_delete; refine wpList_delete_own _ rfl _ _ 60 9 rfl 80 (string_keyed Tryz.underlying9) Tryz.underlying60 rdP b s.fs.length (dat (on F.blk s.fs)) rfl HO.out (.string n) (.string n.data.toList) rfl HK.out ?_; intro w1 hown1 hturn1)
    go_end0
    exact ⟨rfl, HE.out w1 hown1 hturn1⟩)
set_option maxRecDepth 100000 in
set_option maxHeartbeats 1000000 in
theorem remove_none {w : World} {d : Nat} {s : S} (h : At w d s) (n : ByteArray) (hn : nameB n.data.toList = true) (hl : look n.data.toList s.fs = none) :
    Calls Tryz.prog 103 #[dp d, .string n] w fun e w' => e = .returned (.tuple #[]) ∧ w' = w := by
  have hsz := name_len hn
  rw [size_data] at hsz
  have hL := h.look n (by omega)
  rw [hl] at hL
  simp only [ptr, Option.isSome_none] at hL
  have c2 := h.c2
  clear h hl
  generalize s.m = m at c2 hL
  unfold dp
  go_enter Tryz.func103, Tryz.ntmps103
  go_wp2
  go_end0
  exact ⟨rfl, rfl⟩

theorem dele_at {s : S} {n : List UInt8} : (s.findC n ≠ 0 → s.lg.syncC n = s.findC n ∧ s.lg.dele n = s.lg) := fun hc => by
  have := sync_no (l := s.lg) (findC_lg s n) hc
  exact ⟨this.1, this.2.2⟩
set_option maxRecDepth 100000 in
set_option maxHeartbeats 4000000 in
theorem delete_at {w : World} {d : Nat} {s : S} (h : At w d s) (n : ByteArray) :
    Calls Tryz.prog 84 #[dp d, .string n] w fun e w' => e = .returned (.int .i64 (s.lg.syncC n.data.toList)) ∧ ∃ s3, At w' d s3 ∧ s3.lg = s.lg.dele n.data.toList ∧ Ch (Foot d s) w w' ∧ ∀ k, Foot d s3 k → Foot d s k := by
  have HF := Lib.hid (find_any h n)
  have hin := findC_in s n.data.toList
  by_cases hc : s.findC n.data.toList = 0
  · obtain ⟨f, hl, hp⟩ := findP_ok hc
    rw [hc, hp] at HF
    have HU := Lib.hid (useFuel_any h)
    have hcl : s.lg.findC n.data.toList = 0 := (findC_lg s _).trans hc
    have hn : nameB n.data.toList = true := h.names (n.data.toList, f) (look_mem hl)
    clear hc hin
    cases hg : s.go with
    | false =>
      obtain ⟨e1, -, e2⟩ := sync_stop hcl ((go_lg s).trans hg)
      rw [e1, e2]
      rw [hg] at HU
      have H := Lib.hid h
      clear h hg e1 e2
      unfold dp at HF HU ⊢
      go_enter Tryz.func84, Tryz.ntmps84
      go_wp2_with (first | (go_at_call 71; (with_reducible refine HF.out.mono ?_); rintro e w1 ⟨rfl, rfl⟩) | (go_at_call 102; (with_reducible refine HU.out.mono ?_); rintro e w2 ⟨rfl, hA, hc⟩))
      go_ret
      exact ⟨rfl, s.step, hA, step_lg s, hc.mono fun _ _ e => .inl e, fun k hk => step_foot hk⟩
    | true =>
      obtain ⟨e1, -, e2⟩ := sync_yes (x := f.lg) hcl ((go_lg s).trans hg) (old_lg hl)
      rw [e1, e2]
      rw [hg] at HU
      have hl' : look n.data.toList s.step.fs = some f := by rw [step_fs]; exact hl
      have HR : Hid (∀ W, At W d s.step → _) := Lib.hid fun W hW => remove_some hW n hn hl'
      have H := Lib.hid h
      clear h hl hl' hg e1 e2
      unfold dp at HF HU HR ⊢
      go_enter Tryz.func84, Tryz.ntmps84
      go_wp2_with (first | (go_at_call 71; (with_reducible refine HF.out.mono ?_); rintro e w1 ⟨rfl, rfl⟩) | (go_at_call 102; (with_reducible refine HU.out.mono ?_); rintro e w2 ⟨rfl, hA, hc⟩; have HA := Lib.hid hA; clear hA) | (go_at_call 103; (with_reducible refine (HR.out _ HA.out).mono ?_); rintro e w3 ⟨rfl, hA3, hc3⟩))
      go_ret
      refine ⟨rfl, _, hA3, ?_, (hc.mono fun _ _ e => Or.inl e).tr (hc3.mono fun k _ e => ?_), ?_⟩
      · show (⟨s.step.room, s.step.down, s.step.lim, s.step.fuel, on F.lg (del n.data.toList s.step.fs)⟩ : Lg) = _
        rw [del_on, ← step_lg]
        rfl
      · rcases e with e | e
        · exact .inl e
        · rw [step_m] at e; exact .inr (.inl e)
      · rintro k (e | e | ⟨p, hp, e⟩)
        · exact .inl e
        · exact step_foot (.inr (.inl e))
        · have hp := (mem_del.1 hp).1
          rw [step_fs] at hp
          exact .inr (.inr ⟨p, hp, e⟩)
  · obtain ⟨e1, e2⟩ := dele_at hc
    rw [e1, e2]
    rw [findP_no hc] at HF
    have H := Lib.hid h
    clear h e1 e2
    generalize s.findC n.data.toList = c at HF hin hc ⊢
    unfold dp at HF ⊢
    go_enter Tryz.func84, Tryz.ntmps84
    go_wp2_with (go_at_call 71; (with_reducible refine HF.out.mono ?_); rintro e w1 ⟨rfl, rfl⟩)
    go_ret
    exact ⟨rfl, s, H.out, rfl, Ch.refl _ _, fun k hk => hk⟩
theorem delete_any {w : World} {d : Nat} {l : Lg} {G : Nat → Prop} (h : Dk w d l G) (n : ByteArray) :
    Calls Tryz.prog 84 #[dp d, .string n] w fun e w' => e = .returned (.int .i64 (l.syncC n.data.toList)) ∧ Dk w' d (l.dele n.data.toList) G ∧ Ch G w w' := by
  obtain ⟨s, hA, rfl, hG⟩ := h
  refine (delete_at hA n).mono ?_
  rintro e w' ⟨rfl, s3, hA3, hl3, hc, hF⟩
  exact ⟨rfl, ⟨s3, hA3, hl3, fun k hk => hG k (hF k hk)⟩, hc.mono fun k _ h => hG k h⟩
end Go.Proofs.YtogihpofkjpokaaGreatDoor.D4
