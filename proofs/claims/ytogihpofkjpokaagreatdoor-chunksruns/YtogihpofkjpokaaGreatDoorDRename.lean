/- The walk of Rename. -/
import Derived.Test.YtogihpofkjpokaaGreatDoorDRemove
namespace Go.Proofs.YtogihpofkjpokaaGreatDoor.D4
open Go Go.RowKit Go.Maps

theorem str_ne {a b : ByteArray} (h : a.data.toList ≠ b.data.toList) : (a.toList == b.toList) = false := by
  rw [ByteArray.toList_eq, ByteArray.toList_eq, beq_eq_false_iff_ne]; exact h

section
variable {α : Type}
theorem put_del_del {n m : List UInt8} {a : α} {l : List (List UInt8 × α)} (h : Asc l) : put m a (del n (del m l)) = put m a (del n l) := by
  refine asc_ext (put_asc (del_asc (del_asc h))) (put_asc (del_asc h)) fun q => ?_
  rw [look_put _ _ _ _ (del_asc (del_asc h)), look_put _ _ _ _ (del_asc h), look_del, look_del, look_del]
  by_cases hm : m = q
  · rw [if_pos hm, if_pos hm]
  · rw [if_neg hm, if_neg hm, if_neg hm]
theorem put_del_self {n : List UInt8} {a : α} {l : List (List UInt8 × α)} (h : Asc l) (hl : look n l = some a) : put n a (del n l) = l := by
  refine asc_ext (put_asc (del_asc h)) h fun q => ?_
  rw [look_put _ _ _ _ (del_asc h), look_del]
  by_cases hm : n = q
  · subst hm; rw [if_pos rfl, hl]
  · rw [if_neg hm, if_neg hm]
theorem del_none {n : List UInt8} {l : List (List UInt8 × α)} (hl : look n l = none) : del n l = l := by
  unfold del
  refine List.filter_eq_self.2 fun q hq => ?_
  simp [look_none hl q hq]
end
/-- A file under another name. -/
theorem At.moved {w w' : World} {d : Nat} {s : S} (h : At w d s) {n m : List UInt8} {f : F} {b N : Nat} (hl : YtogihpofkjpokaaGreatDoor.D4.look n s.fs = some f) (ht : YtogihpofkjpokaaGreatDoor.D4.look m s.fs = none) (hm : s.m = some b) (hn : nameB m = true) (hc : Ch (fun k => k = b) w w')
    (ho : w'.ownsMap Tryz.prog 9 rdP b N (((dat (on F.blk s.fs)).del (.string n)).put (.string m) (.held f.blk))) : At w' d { s with fs := put m f (del n s.fs) } := by
  have hmem := look_mem hl
  have hdn : YtogihpofkjpokaaGreatDoor.D4.look m (del n s.fs) = none := by rw [look_del, ht]; split <;> rfl
  have htot := total_put_none (f := f) hdn
  have htd := total_del h.asc hl
  have hfile : ∀ p ∈ s.fs, File w' p.2 := fun p hp => (h.file p hp).keep hc (h.map_file hm hp) fun k hk => h.map_data hm hp hk
  have hpair : ∀ q ∈ s.fs, q.1 ≠ n → Far (n, f) q := fun q hq hne => by
    have hp := List.pairwise_iff_getElem.1 h.far
    obtain ⟨i, hi, ei⟩ := List.getElem_of_mem hmem
    obtain ⟨j, hj, ej⟩ := List.getElem_of_mem hq
    rcases Nat.lt_trichotomy i j with hij | hij | hij
    · have := hp i j hi hj hij; rwa [ei, ej] at this
    · subst hij; rw [ei] at ej; exact absurd (by rw [← ej]) hne
    · have := hp j i hj hi hij; rw [ei, ej] at this; exact this.symm
  refine ⟨(hc.block d (lt_of_heap h.blk) (fun e => h.map_ne hm e.symm)).trans h.blk, fun b' hb' => ?_, fun e => ?_, put_asc (del_asc h.asc), fun p hp => ?_, fun p hp => ?_, put_pairwise (fun _ _ => Far.symm) (del_asc h.asc) (del_pairwise h.far) fun q hq _ => ?_, ?_, ?_, h.room, h.fuel⟩
  · have hb' : s.m = some b' := hb'
    rw [hm] at hb'
    cases hb'
    have := ownsMap_tight ho
    rw [dat_del, dat_put (del_asc (on_asc _ h.asc)), dat_size] at this
    show World.ownsMap _ _ _ _ _ (put m f (del n s.fs)).length (dat (on F.blk (put m f (del n s.fs))))
    rw [← on_length F.blk, put_on, del_on]
    exact this
  · have e : s.m = none := e
    rw [hm] at e; cases e
  · rcases mem_put hp with rfl | hp
    · exact hn
    · exact h.names p (mem_del.1 hp).1
  · rcases mem_put hp with rfl | hp
    · exact hfile (n, f) hmem
    · exact hfile p (mem_del.1 hp).1
  · have := hpair q (mem_del.1 hq).1 (mem_del.1 hq).2
    exact ⟨this.1, this.2⟩
  · show s.used = (total (put m f (del n s.fs)) : Int)
    have := h.used
    omega
  · show total (put m f (del n s.fs)) ≤ _
    have := h.most
    omega
/-- .. behind a deletion and a clone of the name. -/
theorem mv_step {w w4 w5 : World} {d : Nat} {s : S} (h : At w d s) {n m : ByteArray} {f : F} {b : Nat} (hl : look n.data.toList s.fs = some f) (ht : look m.data.toList s.fs = none) (hm : s.m = some b) (hn : nameB m.data.toList = true) (hlen : s.fs.length < 1000000)
    (ho : w4.ownsMap Tryz.prog 9 rdP b s.fs.length ((dat (on F.blk s.fs)).del (.string n.data.toList))) (hc : Ch (fun k => k = b) w w4) (hbe : Below w4.heap.size w4 w5) :
    w5.cell? ⟨d, 2, none⟩ = some (.map (some b)) ∧ ∃ w6, (Instr.mapUpdate 60 (.map (some b)) (.string m) (.pointer (some ⟨f.blk, 0, none⟩))).run Tryz.prog w5 = .ok () w6 ∧ At w6 d { s with fs := put m.data.toList f (del n.data.toList s.fs) } ∧ Ch (fun k => k = b) w w6 := by
  have hsz := name_len hn
  rw [size_data] at hsz
  have hc5 : Ch (fun k => k = b) w w5 := hc.tr (Ch.of_new hbe)
  have ho5 := ownsMap_keep ho (Ch.of_new (S := fun _ => False) hbe) id
  obtain ⟨w6, hr, ho6, hgr⟩ := ho5.update (string_keyed Tryz.underlying9) Tryz.underlying60 (by unfold maxLen; omega) (keyS m (by omega)) (rdP_some f.blk)
  have hc6 : Ch (fun k => k = b) w w6 := hc5.tr (Ch.of_grown hgr fun k hk => by cases hk; rfl)
  refine ⟨?_, w6, hr, h.moved hl ht hm hn hc6 ho6, hc6⟩
  have := h.c2
  rw [hm] at this
  exact hc5.cell this (fun e => h.map_ne hm e.symm)

/-- The state behind the removal of what has the other name. -/
def S.rm (s : S) (m : List UInt8) : S := match look m s.fs with | some g => { s with used := s.used - (g.data.length : Int), fs := del m s.fs } | none => s
theorem rm_any {w : World} {d : Nat} {s : S} (h : At w d s) (m : ByteArray) (hn : nameB m.data.toList = true) :
    Calls Tryz.prog 103 #[dp d, .string m] w fun e w' => e = .returned (.tuple #[]) ∧ At w' d (s.rm m.data.toList) ∧ Ch (fun k => k = d ∨ s.m = some k) w w' := by
  unfold S.rm
  cases hl : look m.data.toList s.fs with
  | some g => exact remove_some h m hn hl
  | none =>
    refine (remove_none h m hn hl).mono ?_
    rintro e w' ⟨rfl, rfl⟩
    exact ⟨rfl, h, Ch.refl _ _⟩
theorem rm_facts (s : S) (m : List UInt8) : (s.rm m).m = s.m ∧ (s.rm m).fs = del m s.fs ∧ (s.rm m).room = s.room ∧ (s.rm m).down = s.down ∧ (s.rm m).lim = s.lim ∧ (s.rm m).fuel = s.fuel := by
  unfold S.rm
  cases hl : look m s.fs with
  | some g => exact ⟨rfl, rfl, rfl, rfl, rfl, rfl⟩
  | none => exact ⟨rfl, (del_none hl).symm, rfl, rfl, rfl, rfl⟩

set_option maxRecDepth 100000 in
set_option maxHeartbeats 4000000 in
theorem rename_at {w : World} {d : Nat} {s : S} (h : At w d s) (hlen : s.fs.length < 1000000) (n m : ByteArray) :
    Calls Tryz.prog 87 #[dp d, .string n, .string m] w fun e w' => e = .returned (.int .i64 (s.lg.renC n.data.toList m.data.toList)) ∧ ∃ s3, At w' d s3 ∧ s3.lg = s.lg.ren n.data.toList m.data.toList ∧ Ch (Foot d s) w w' ∧ ∀ k, Foot d s3 k → Foot d s k := by
  have HF := Lib.hid (find_any h n)
  have HD := Lib.hid (down_any h)
  have HM := Lib.hid (isName_any m w)
  have hin := findC_in s n.data.toList
  have H := Lib.hid h
  rcases ren_ways s.lg n.data.toList m.data.toList with ⟨hd, e1, e2⟩ | ⟨hd, hm, e1, e2⟩ | ⟨hd, hm, e1, e2⟩
  · rw [e1, e2]
    rw [show s.down = true from hd] at HD
    clear h hd e1 e2 hin
    unfold dp at HD ⊢
    go_enter Tryz.func87, Tryz.ntmps87
    go_wp2_with (go_at_call 29; (with_reducible refine HD.out.mono ?_); rintro e w1 ⟨rfl, rfl⟩)
    go_ret
    exact ⟨rfl, s, H.out, rfl, Ch.refl _ _, fun k hk => hk⟩
  · rw [e1, e2]
    rw [show s.down = false from hd] at HD
    rw [hm] at HM
    clear h hd hm e1 e2 hin
    unfold dp at HD ⊢
    go_enter Tryz.func87, Tryz.ntmps87
    go_wp2_with (first | (go_at_call 29; (with_reducible refine HD.out.mono ?_); rintro e w1 ⟨rfl, rfl⟩) | (go_at_call 92; (with_reducible refine HM.out.mono ?_); rintro e w1 ⟨rfl, rfl⟩))
    go_ret
    exact ⟨rfl, s, H.out, rfl, Ch.refl _ _, fun k hk => hk⟩
  · rw [show s.down = false from hd] at HD
    rw [findC_lg] at e2
    by_cases hc : s.findC n.data.toList = 0
    · obtain ⟨f, hl, hp⟩ := findP_ok hc
      rw [hc, hp] at HF
      have HU := Lib.hid (useFuel_any h)
      have hcl : s.lg.findC n.data.toList = 0 := (findC_lg s _).trans hc
      rw [hc, if_pos rfl, old_lg hl] at e2
      have hmem := look_mem hl
      clear hc hin
      cases hg : s.go with
      | false =>
        rw [go_lg, hg, if_neg (by simp)] at e2
        rw [e1, e2, (sync_stop hcl ((go_lg s).trans hg)).1]
        rw [hg] at HU
        rw [hm] at HM
        clear h hg e1 e2 hm hd
        unfold dp at HF HU HD ⊢
        go_enter Tryz.func87, Tryz.ntmps87
        go_wp2_with (first | (go_at_call 29; (with_reducible refine HD.out.mono ?_); rintro e w1 ⟨rfl, rfl⟩) | (go_at_call 92; (with_reducible refine HM.out.mono ?_); rintro e w1 ⟨rfl, rfl⟩) | (go_at_call 71; (with_reducible refine HF.out.mono ?_); rintro e w1 ⟨rfl, rfl⟩) | (go_at_call 102; (with_reducible refine HU.out.mono ?_); rintro e w2 ⟨rfl, hA, hc⟩))
        go_ret
        exact ⟨rfl, s.step, hA, step_lg s, hc.mono fun _ _ e => .inl e, fun k hk => step_foot hk⟩
      | true =>
        rw [go_lg, hg, if_pos rfl] at e2
        rw [e1, e2, (sync_yes hcl ((go_lg s).trans hg) (old_lg hl)).1]
        rw [hg] at HU
        have hl' : look n.data.toList s.step.fs = some f := by rw [step_fs]; exact hl
        have HM0 := Lib.hid hm
        rw [hm] at HM
        by_cases hnm : n.data.toList = m.data.toList
        · have hq : n = m := ByteArray.ext (Array.ext' hnm)
          subst hq
          clear h hg e1 e2 hm hd hnm
          unfold dp at HF HU HD ⊢
          have hb : ∀ x : ByteArray, (x.toList == x.toList) = true := fun x => by simp
          go_enter Tryz.func87, Tryz.ntmps87
          go_wp2_with (first | (go_at_call 29; (with_reducible refine HD.out.mono ?_); rintro e w1 ⟨rfl, rfl⟩) | (go_at_call 92; (with_reducible refine HM.out.mono ?_); rintro e w1 ⟨rfl, rfl⟩) | (go_at_call 71; (with_reducible refine HF.out.mono ?_); rintro e w1 ⟨rfl, rfl⟩) | (go_at_call 102; (with_reducible refine HU.out.mono ?_); rintro e w2 ⟨rfl, hA, hc⟩))
          go_ret
          refine ⟨rfl, s.step, hA, ?_, hc.mono fun _ _ e => .inl e, fun k hk => step_foot hk⟩
          rw [put_del_self (by rw [step_fs']; exact on_asc _ H.out.asc) (by rw [step_fs']; show look _ (on F.lg s.fs) = _; rw [look_on, hl]; rfl)]
          exact step_lg s
        · have hne := str_ne hnm
          have HR : Hid (∀ W, At W d s.step → _) := Lib.hid fun W hW => rm_any hW m hm
          have hfa := rm_facts s.step m.data.toList
          obtain ⟨b, hmb⟩ := h.some_map hl
          have hmb2 : (s.step.rm m.data.toList).m = some b := by rw [hfa.1, step_m]; exact hmb
          have hlr : look n.data.toList (s.step.rm m.data.toList).fs = some f := by rw [hfa.2.1, look_del, if_neg (fun e => hnm e.symm)]; exact hl'
          have htr : look m.data.toList (s.step.rm m.data.toList).fs = none := by rw [hfa.2.1, look_del, if_pos rfl]
          have hlen2 : (s.step.rm m.data.toList).fs.length < 1000000 := by
            rw [hfa.2.1, step_fs]
            exact Nat.lt_of_le_of_lt (List.length_filter_le _ _) hlen
          have HV := Lib.hid (fun (W w4 w5 : World) (hW : At W d (s.step.rm m.data.toList)) (ho : w4.ownsMap Tryz.prog 9 rdP b (s.step.rm m.data.toList).fs.length ((dat (on F.blk (s.step.rm m.data.toList).fs)).del (.string n.data.toList))) (hc : Ch (fun k => k = b) W w4) (hbe : Below w4.heap.size w4 w5) => mv_step hW hlr htr hmb2 hm hlen2 ho hc hbe)
          have hsz := name_len (h.names (n.data.toList, f) hmem)
          have hsm := name_len hm
          rw [size_data] at hsz hsm
          have HK := Lib.hid (keyS n (by omega))
          have HC : Hid (∀ W, Calls Tryz.prog 39 #[.string m] W fun e w' => e = .returned (.string m) ∧ Below W.heap.size W w') := Lib.hid fun W => clone_any m W (by omega)
          have HFA := Lib.hid hfa
          have HMB := Lib.hid hmb
          have HMB2 := Lib.hid hmb2
          clear h hg e1 e2 hm hd hlr htr hlen2 hfa hmb hmb2 hl' hsz hsm
          unfold dp at HF HU HD HR ⊢
          go_enter Tryz.func87, Tryz.ntmps87
          go_wp2_with (first
            | (go_at_call 29; (with_reducible refine HD.out.mono ?_); rintro e w1 ⟨rfl, rfl⟩)
            | (go_at_call 92; (with_reducible refine HM.out.mono ?_); rintro e w1 ⟨rfl, rfl⟩)
            | (go_at_call 71; (with_reducible refine HF.out.mono ?_); rintro e w1 ⟨rfl, rfl⟩)
            | (go_at_call 102; (with_reducible refine HU.out.mono ?_); rintro e w2 ⟨rfl, hA, hc⟩; have HA := Lib.hid hA; clear hA)
            | (go_at_call 103; (with_reducible refine (HR.out _ HA.out).mono ?_); rintro e w3 ⟨rfl, hA3, hc3⟩; have HA3 := Lib.hid hA3; have c2 := hA3.c2; rw [HMB2.out] at c2; clear hA3)
            | (at_delete; refine wpList_delete_own _ rfl _ _ 60 9 rfl 80 (string_keyed Tryz.underlying9) Tryz.underlying60 rdP b (s.step.rm m.data.toList).fs.length (dat (on F.blk (s.step.rm m.data.toList).fs)) rfl (HA3.out.map b HMB2.out) (.string n) (.string n.data.toList) rfl HK.out ?_; intro w4 ho4 ht4; have hc4 := Ch.of_turned ht4; have c24 := (HV.out w3 w4 w4 HA3.out ho4 hc4 (Below.refl _ _)).1; clear ht4 c2))
          go_region_with (go_at_call 39; (with_reducible refine (HC.out _).mono ?_); rintro e w5 ⟨rfl, hb⟩; obtain ⟨c25, w6, hrun, hA6, hC6⟩ := HV.out w3 w4 w5 HA3.out ho4 hc4 (undrew hb); clear hb)
          all_goals clear hrun c25
          all_goals go_wp2
          all_goals (
            go_ret
            have hfs : (s.step.rm m.data.toList).fs = del m.data.toList s.fs := by rw [HFA.out.2.1, step_fs]
            refine ⟨rfl, _, hA6, ?_, ((hc.mono fun _ _ e => Or.inl e).tr (hc3.mono fun k _ e => ?_)).tr (hC6.mono fun k _ e => ?_), ?_⟩
            · show (⟨(s.step.rm m.data.toList).room, (s.step.rm m.data.toList).down, (s.step.rm m.data.toList).lim, (s.step.rm m.data.toList).fuel, on F.lg (put m.data.toList f (del n.data.toList (s.step.rm m.data.toList).fs))⟩ : Lg) = _
              rw [HFA.out.2.1, HFA.out.2.2.1, HFA.out.2.2.2.1, HFA.out.2.2.2.2.1, HFA.out.2.2.2.2.2, put_del_del HA.out.asc, put_on, del_on, ← step_lg]
              rfl
            · rcases e with e | e
              · exact .inl e
              · rw [step_m] at e; exact .inr (.inl e)
            · subst e; exact .inr (.inl HMB.out)
            · rintro k (e | e | ⟨p, hp, e⟩)
              · exact .inl e
              · have e : (s.step.rm m.data.toList).m = some k := e
                rw [HFA.out.1] at e
                exact step_foot (.inr (.inl e))
              · rw [hfs] at hp
                rcases mem_put hp with rfl | hp
                · exact .inr (.inr ⟨_, hmem, e⟩)
                · exact .inr (.inr ⟨p, (mem_del.1 (mem_del.1 hp).1).1, e⟩))
    · rw [if_neg hc] at e2
      rw [e1, e2, (dele_at hc).1]
      rw [findP_no hc] at HF
      rw [hm] at HM
      clear h e1 e2 hd hm
      generalize s.findC n.data.toList = c at HF hin hc ⊢
      unfold dp at HF HD ⊢
      go_enter Tryz.func87, Tryz.ntmps87
      go_wp2_with (first | (go_at_call 29; (with_reducible refine HD.out.mono ?_); rintro e w1 ⟨rfl, rfl⟩) | (go_at_call 92; (with_reducible refine HM.out.mono ?_); rintro e w1 ⟨rfl, rfl⟩) | (go_at_call 71; (with_reducible refine HF.out.mono ?_); rintro e w1 ⟨rfl, rfl⟩))
      go_ret
      exact ⟨rfl, s, H.out, rfl, Ch.refl _ _, fun k hk => hk⟩
theorem rename_any {w : World} {d : Nat} {l : Lg} {G : Nat → Prop} (h : Dk w d l G) (hlen : l.fs.length < 1000000) (n m : ByteArray) :
    Calls Tryz.prog 87 #[dp d, .string n, .string m] w fun e w' => e = .returned (.int .i64 (l.renC n.data.toList m.data.toList)) ∧ Dk w' d (l.ren n.data.toList m.data.toList) G ∧ Ch G w w' := by
  obtain ⟨s, hA, rfl, hG⟩ := h
  refine (rename_at hA (by rw [← lg_len]; exact hlen) n m).mono ?_
  rintro e w' ⟨rfl, s3, hA3, hl3, hc, hF⟩
  exact ⟨rfl, ⟨s3, hA3, hl3, fun k hk => hG k (hF k hk)⟩, hc.mono fun k _ h => hG k h⟩
end Go.Proofs.YtogihpofkjpokaaGreatDoor.D4
