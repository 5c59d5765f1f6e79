/- The walks of remove, Delete and Rename. -/
import Derived.Test.YtceejjocimgbmaaRefMore
import Derived.BigRegion
namespace Go.Proofs.Ytceejjocimgbmaa
open Go Go.RowKit Go.Maps

theorem Ch.of_turned {w w' : World} {b : Nat} (h : w.mapTurned w' b) : Ch (fun k => k = b) w w' := by
  obtain ⟨es, clock, es', clock', hb, rfl⟩ := h
  refine ⟨rfl, rfl, rfl, by simp [ChangeMaps.setBlock], fun k _ hn => ?_⟩
  have hn : b ≠ k := fun e => hn e.symm
  simp [ChangeMaps.setBlock, hn]
theorem At.some_map {w : World} {d : Nat} {s : S} (h : At w d s) {n : List UInt8} {f : F} (hl : Ytceejjocimgbmaa.look n s.fs = some f) : ∃ b, s.m = some b := by
  cases hm : s.m with
  | none => rw [h.nomap hm] at hl; cases hl
  | some b => exact ⟨b, rfl⟩
set_option maxRecDepth 100000 in
set_option maxHeartbeats 4000000 in
theorem remove_some {w : World} {d : Nat} {s : S} (h : At w d s) (n : ByteArray) (hn : nameB n.data.toList = true) {f : F} (hl : look n.data.toList s.fs = some f) :
    Calls Try.prog 48 #[dp d, .string n] w fun e w' => e = .returned (.tuple #[]) ∧ At w' d { s with used := s.used - (f.data.length : Int), fs := del n.data.toList s.fs } ∧ Ch (fun k => k = d ∨ s.m = some k) w w' := by
  have hsz := name_len hn
  rw [size_data] at hsz
  have hL := h.look n (by omega)
  rw [hl] at hL
  simp only [ptr, Option.isSome_some, dp] at hL
  obtain ⟨b, hm⟩ := h.some_map hl
  have c1 := h.c1
  have c2 := h.c2
  have f1 := h.fr 1
  rw [hm] at c2 hL
  have hmem := look_mem hl
  have hfile : File w f := h.file _ hmem
  have k0 : w.cell? ⟨f.blk, 0, none⟩ = some f.v := cell_of_row _ _ _ _ _ _ hfile.1
  obtain ⟨a', c', k3⟩ := hfile.2.1.shape
  rw [k3] at k0
  have htot := total_mem hmem
  have hus := h.used
  have hmo := h.most
  have hu0 : (f.data.length : Int) ≤ s.used := by omega
  have hu1 : s.used ≤ 1073741824 := by omega
  have hw : IntKind.i64.wrap (s.used - (f.data.length : Int)) = s.used - (f.data.length : Int) := by simp [IntKind.wrap, IntKind.bits, IntKind.signed]; omega
  have hne := h.map_ne hm
  have HO : Hid ((w.setCell ⟨d, 1, none⟩ (.int .i64 (s.used - (f.data.length : Int)))).drew.ownsMap Try.prog 9 rdP b s.fs.length (dat (on F.blk s.fs))) := Lib.hid (ownsMap_keep (ownsMap_keep (h.map b hm) (Ch.set1 w d 1 _) hne) (Ch.drew (fun _ => False) _) id)
  have HK := Lib.hid (keyS n (by omega))
  have HE : Hid (∀ w', w'.ownsMap Try.prog 9 rdP b s.fs.length ((dat (on F.blk s.fs)).del (.string n.data.toList)) → (w.setCell ⟨d, 1, none⟩ (.int .i64 (s.used - (f.data.length : Int)))).drew.mapTurned w' b → At w' d { s with used := s.used - (f.data.length : Int), fs := del n.data.toList s.fs } ∧ Ch (fun k => k = d ∨ s.m = some k) w w') := Lib.hid (by
    intro w' ho ht
    have hC := Ch.of_turned ht
    have hC2 : Ch (fun k => k = d ∨ k = b) w w' := ((Ch.mono (Ch.set1 w d 1 (.int .i64 (s.used - (f.data.length : Int)))) fun _ _ e => Or.inl e).tr (Ch.drew _ _)).tr (hC.mono fun _ _ e => Or.inr e)
    refine ⟨h.gone hl hm hC2 ((hC.block d ?_ (fun e => hne e.symm)).trans (h.set 1 _)) ho (by omega), hC2.mono fun k _ e => e.imp id fun e => by rw [hm, e]⟩
    have := lt_of_heap (h.set 1 (.int .i64 (s.used - (f.data.length : Int))))
    exact this)
  clear h hl hfile hmem htot hus hmo k3 hm
  unfold dp
  go_enter Try.func48, Try.ntmps48
  go_wp2
  go_region
  all_goals (
    go_wp2_with (at_delete; refine wpList_delete_own _ rfl _ _ 52 9 rfl 56 (string_keyed Try.underlying9) Try.underlying52 rdP b s.fs.length (dat (on F.blk s.fs)) rfl HO.out (.string n) (.string n.data.toList) rfl HK.out ?_; intro w1 hown1 hturn1)
    go_end0
    exact ⟨rfl, HE.out w1 hown1 hturn1⟩)
set_option maxRecDepth 100000 in
set_option maxHeartbeats 1000000 in
theorem remove_none {w : World} {d : Nat} {s : S} (h : At w d s) (n : ByteArray) (hn : nameB n.data.toList = true) (hl : look n.data.toList s.fs = none) :
    Calls Try.prog 48 #[dp d, .string n] w fun e w' => e = .returned (.tuple #[]) ∧ w' = w := by
  have hsz := name_len hn
  rw [size_data] at hsz
  have hL := h.look n (by omega)
  rw [hl] at hL
  simp only [ptr, Option.isSome_none] at hL
  have c2 := h.c2
  clear h hl
  generalize s.m = m at c2 hL
  unfold dp
  go_enter Try.func48, Try.ntmps48
  go_wp2
  go_end0
  exact ⟨rfl, rfl⟩

theorem dele_at {s : S} {n : List UInt8} : (s.findC n ≠ 0 → s.lg.syncC n = s.findC n ∧ s.lg.dele n = s.lg) := fun hc => by
  have := sync_no (l := s.lg) (findC_lg s n) hc
  exact ⟨this.1, this.2.2⟩
set_option maxRecDepth 100000 in
set_option maxHeartbeats 4000000 in
theorem delete_at {w : World} {d : Nat} {s : S} (h : At w d s) (n : ByteArray) :
    Calls Try.prog 30 #[dp d, .string n] w fun e w' => e = .returned (.int .i64 (s.lg.syncC n.data.toList)) ∧ ∃ s3, At w' d s3 ∧ s3.lg = s.lg.dele n.data.toList ∧ Ch (Foot d s) w w' ∧ ∀ k, Foot d s3 k → Foot d s k := by
  have HF := Lib.hid (find_any h n)
  have hin := findC_in s n.data.toList
  by_cases hc : s.findC n.data.toList = 0
  · obtain ⟨f, hl, hp⟩ := findP_ok hc
    rw [hc, hp] at HF
    have HU := Lib.hid (useFuel_any h)
    have hcl : s.lg.findC n.data.toList = 0 := (findC_lg s _).trans hc
    have hn : nameB n.data.toList = true := h.names (n.data.toList, f) (look_mem hl)
    clear hc hin
    cases hg : s.go with
    | false =>
      obtain ⟨e1, -, e2⟩ := sync_stop hcl ((go_lg s).trans hg)
      rw [e1, e2]
      rw [hg] at HU
      have H := Lib.hid h
      clear h hg e1 e2
      unfold dp at HF HU ⊢
      go_enter Try.func30, Try.ntmps30
      go_wp2_with (first | (go_at_call 37; (with_reducible refine HF.out.mono ?_); rintro e w1 ⟨rfl, rfl⟩) | (go_at_call 24; (with_reducible refine HU.out.mono ?_); rintro e w2 ⟨rfl, hA, hc⟩))
      go_ret
      exact ⟨rfl, s.step, hA, step_lg s, hc.mono fun _ _ e => .inl e, fun k hk => step_foot hk⟩
    | true =>
      obtain ⟨e1, -, e2⟩ := sync_yes (x := f.lg) hcl ((go_lg s).trans hg) (old_lg hl)
      rw [e1, e2]
      rw [hg] at HU
      have hl' : look n.data.toList s.step.fs = some f := by rw [step_fs]; exact hl
      have HR : Hid (∀ W, At W d s.step → _) := Lib.hid fun W hW => remove_some hW n hn hl'
      have H := Lib.hid h
      clear h hl hl' hg e1 e2
      unfold dp at HF HU HR ⊢
      go_enter Try.func30, Try.ntmps30
      go_wp2_with (first | (go_at_call 37; (with_reducible refine HF.out.mono ?_); rintro e w1 ⟨rfl, rfl⟩) | (go_at_call 24; (with_reducible refine HU.out.mono ?_); rintro e w2 ⟨rfl, hA, hc⟩; have HA := Lib.hid hA; clear hA) | (go_at_call 48; (with_reducible refine (HR.out _ HA.out).mono ?_); rintro e w3 ⟨rfl, hA3, hc3⟩))
      go_ret
      refine ⟨rfl, _, hA3, ?_, (hc.mono fun _ _ e => Or.inl e).tr (hc3.mono fun k _ e => ?_), ?_⟩
      · show (⟨s.step.room, s.step.down, s.step.lim, s.step.fuel, on F.lg (del n.data.toList s.step.fs)⟩ : Lg) = _
        rw [del_on, ← step_lg]
        rfl
      · rcases e with e | e
        · exact .inl e
        · rw [step_m] at e; exact .inr (.inl e)
      · rintro k (e | e | ⟨p, hp, e⟩)
        · exact .inl e
        · exact step_foot (.inr (.inl e))
        · have hp := (mem_del.1 hp).1
          rw [step_fs] at hp
          exact .inr (.inr ⟨p, hp, e⟩)
  · obtain ⟨e1, e2⟩ := dele_at hc
    rw [e1, e2]
    rw [findP_no hc] at HF
    have H := Lib.hid h
    clear h e1 e2
    generalize s.findC n.data.toList = c at HF hin hc ⊢
    unfold dp at HF ⊢
    go_enter Try.func30, Try.ntmps30
    go_wp2_with (go_at_call 37; (with_reducible refine HF.out.mono ?_); rintro e w1 ⟨rfl, rfl⟩)
    go_ret
    exact ⟨rfl, s, H.out, rfl, Ch.refl _ _, fun k hk => hk⟩
theorem delete_any {w : World} {d : Nat} {l : Lg} {G : Nat → Prop} (h : Dk w d l G) (n : ByteArray) :
    Calls Try.prog 30 #[dp d, .string n] w fun e w' => e = .returned (.int .i64 (l.syncC n.data.toList)) ∧ Dk w' d (l.dele n.data.toList) G ∧ Ch G w w' := by
  obtain ⟨s, hA, rfl, hG⟩ := h
  refine (delete_at hA n).mono ?_
  rintro e w' ⟨rfl, s3, hA3, hl3, hc, hF⟩
  exact ⟨rfl, ⟨s3, hA3, hl3, fun k hk => hG k (hF k hk)⟩, hc.mono fun k _ h => hG k h⟩
end Go.Proofs.Ytceejjocimgbmaa
