/- The walks of Sync and Read. -/
import Derived.Test.YtogihpofkjpokaaGreatDoorDAppend
namespace Go.Proofs.YtogihpofkjpokaaGreatDoor.D4
open Go Go.RowKit Go.Maps

def Lg.findC (l : Lg) (n : List UInt8) : Int := if l.down then 3 else if nameB n then (if (look n l.fs).isSome then 0 else 4) else 1
theorem findC_lg (s : S) (n : List UInt8) : s.lg.findC n = s.findC n := by
  unfold Lg.findC S.findC
  rw [show s.lg.fs = on F.lg s.fs from rfl, look_on, Option.isSome_map]
  rfl
theorem findP_ok {s : S} {n : List UInt8} (h : s.findC n = 0) : ∃ f, look n s.fs = some f ∧ s.findP n = dp f.blk := by
  unfold S.findC at h
  unfold S.findP
  split at h
  · simp at h
  · rename_i hd
    rw [if_neg hd]
    split at h
    · rename_i hn
      rw [if_pos hn]
      split at h
      · rename_i hs
        obtain ⟨f, hf⟩ := Option.isSome_iff_exists.1 hs
        exact ⟨f, hf, by rw [hf]; rfl⟩
      · simp at h
    · simp at h
theorem findP_no {s : S} {n : List UInt8} (h : s.findC n ≠ 0) : s.findP n = .pointer none := by
  unfold S.findC at h
  unfold S.findP
  split at h
  · rename_i hd; rw [if_pos hd]
  · rename_i hd
    rw [if_neg hd]
    split at h
    · rename_i hn
      rw [if_pos hn]
      split at h
      · exact absurd rfl h
      · rename_i hs
        cases hl : look n s.fs with
        | none => rfl
        | some f => rw [hl] at hs; exact absurd rfl hs
    · rename_i hn; rw [if_neg hn]
theorem findC_in (s : S) (n : List UInt8) : 0 ≤ s.findC n ∧ s.findC n ≤ 4 := by
  unfold S.findC
  split
  · omega
  · split
    · split <;> omega
    · omega
def Lg.syncC (l : Lg) (n : List UInt8) : Int := if l.findC n = 0 then (if l.go then 0 else 3) else l.findC n
def Lg.sync (l : Lg) (n : List UInt8) : Lg := if l.findC n = 0 then (if l.go then { l.step with fs := put n ((l.old n).1, (l.old n).1.length) l.fs } else l.step) else l
def Lg.readS (l : Lg) (n : List UInt8) : List UInt8 := if l.findC n = 0 then (l.old n).1 else []
theorem old_lg {s : S} {n : List UInt8} {f : F} (h : look n s.fs = some f) : s.lg.old n = f.lg := by
  show (look n (on F.lg s.fs)).getD ([], 0) = _
  rw [look_on, h]; rfl
theorem sync_end {w : World} {d : Nat} {s : S} {n : List UInt8} {f : F} (h : At w d s) (hl : look n s.fs = some f) :
    At (w.setCell ⟨f.blk, 1, none⟩ (.int .i64 (f.data.length : Int))) d { s with used := s.used, fs := put n { f with sure := f.data.length } s.fs } := by
  have hmem := look_mem hl
  have hne : f.blk ≠ d := h.file_ne hmem
  have hfile : File w f := h.file _ hmem
  refine h.turn hl rfl ⟨heap_setCell_same _ f.blk 1 _ 112 _ hfile.1, hfile.2.1.keep (Ch.set1 _ f.blk 1 _) (fun k hk e => h.file_data hmem hmem hk e.symm), Nat.le_refl _⟩ ((Ch.set1 _ f.blk 1 _).mono fun k _ e => .inr (.inl e)) ?_ (fun k hk => .inl hk) rfl ?_
  · exact (Below.heap_setCell _ _ _ _ hne.symm).trans h.blk
  · have h1 := h.used
    have h2 := h.most
    omega
theorem step_foot {d : Nat} {s : S} {k : Nat} (h : Foot d s.step k) : Foot d s k := Foot.head (step_m s) (step_fs s) h
theorem ret_int {a b : Int} (h : a = b) : Ending.returned (.int .i64 a) = .returned (.int .i64 b) := by rw [h]

set_option maxRecDepth 100000 in
set_option maxHeartbeats 4000000 in
theorem sync_at {w : World} {d : Nat} {s : S} (h : At w d s) (n : ByteArray) :
    Calls Tryz.prog 86 #[dp d, .string n] w fun e w' => e = .returned (.int .i64 (s.lg.syncC n.data.toList)) ∧ ∃ s3, At w' d s3 ∧ s3.lg = s.lg.sync n.data.toList ∧ Ch (Foot d s) w w' ∧ ∀ k, Foot d s3 k → Foot d s k := by
  have HF := Lib.hid (find_any h n)
  have hin := findC_in s n.data.toList
  unfold Lg.syncC Lg.sync
  rw [findC_lg]
  by_cases hc : s.findC n.data.toList = 0
  · obtain ⟨f, hl, hp⟩ := findP_ok hc
    rw [hc, hp] at HF
    rw [if_pos hc, if_pos hc]
    have HU := Lib.hid (useFuel_any h)
    clear hc hin
    rw [go_lg]
    cases hg : s.go with
    | false =>
      rw [hg] at HU
      clear hg
      have H := Lib.hid h
      clear h
      unfold dp at HF HU ⊢
      go_enter Tryz.func86, Tryz.ntmps86
      go_wp2_with (first | (go_at_call 71; (with_reducible refine HF.out.mono ?_); rintro e w1 ⟨rfl, rfl⟩) | (go_at_call 102; (with_reducible refine HU.out.mono ?_); rintro e w2 ⟨rfl, hA, hc⟩))
      go_ret
      exact ⟨rfl, s.step, hA, step_lg s, hc.mono fun _ _ e => .inl e, fun k hk => step_foot hk⟩
    | true =>
      rw [hg] at HU
      clear hg
      have hl' : look n.data.toList s.step.fs = some f := by rw [step_fs]; exact hl
      have HE : Hid (∀ W, At W d s.step → W.cell? ⟨f.blk, 0, none⟩ = some f.v ∧ W.cell? ⟨f.blk, 1, none⟩ = some (.int .i64 (f.sure : Int)) ∧ W.frozen? ⟨f.blk, 1, none⟩ = false ∧ (∃ a c, f.v = .slice a f.data.length c) ∧ f.data.length ≤ 1073741824) := Lib.hid fun W hW => by
        have hf : File W f := hW.file _ (look_mem hl')
        exact ⟨cell_of_row _ _ _ _ _ _ hf.1, cell_of_row _ _ _ _ _ _ hf.1, frozen_of_row _ _ _ _ _ hf.1, hf.2.1.shape, by have h1 := total_mem (look_mem hl'); have h2 := hW.most; omega⟩
      have H := Lib.hid h
      have HL := Lib.hid hl
      clear h hl
      unfold dp at HF HU ⊢
      go_enter Tryz.func86, Tryz.ntmps86
      go_wp2_with (first | (go_at_call 71; (with_reducible refine HF.out.mono ?_); rintro e w1 ⟨rfl, rfl⟩) | (go_at_call 102; (with_reducible refine HU.out.mono ?_); rintro e w2 ⟨rfl, hA, hc⟩; obtain ⟨k0, k1, k2, ⟨a', c', k3⟩, k4⟩ := HE.out _ hA; rw [k3] at k0))
      go_ret
      have hm := look_mem HL.out
      refine ⟨rfl, _, sync_end hA hl', ?_, (hc.mono fun _ _ e => Or.inl e).tr (Ch.setCell _ _ _ fun _ => .inr (.inr ⟨_, hm, .inl rfl⟩)), ?_⟩
      · show (⟨s.step.room, s.step.down, s.step.lim, s.step.fuel, on F.lg (put n.data.toList { f with sure := f.data.length } s.step.fs)⟩ : Lg) = _
        rw [put_on, step_fs, old_lg HL.out, ← step_lg]
        rfl
      · rintro k (e | e | ⟨p, hp, e⟩)
        · exact .inl e
        · exact step_foot (.inr (.inl e))
        · rcases mem_put hp with rfl | hp
          · exact .inr (.inr ⟨_, hm, e⟩)
          · rw [step_fs] at hp; exact .inr (.inr ⟨p, hp, e⟩)
  · rw [if_neg hc, if_neg hc]
    rw [findP_no hc] at HF
    have H := Lib.hid h
    clear h
    generalize s.findC n.data.toList = c at HF hin hc ⊢
    unfold dp at HF ⊢
    go_enter Tryz.func86, Tryz.ntmps86
    go_wp2_with (go_at_call 71; (with_reducible refine HF.out.mono ?_); rintro e w1 ⟨rfl, rfl⟩)
    go_ret
    exact ⟨rfl, s, H.out, rfl, Ch.refl _ _, fun k hk => hk⟩
theorem sync_any {w : World} {d : Nat} {l : Lg} {G : Nat → Prop} (h : Dk w d l G) (n : ByteArray) :
    Calls Tryz.prog 86 #[dp d, .string n] w fun e w' => e = .returned (.int .i64 (l.syncC n.data.toList)) ∧ Dk w' d (l.sync n.data.toList) G ∧ Ch G w w' := by
  obtain ⟨s, hA, rfl, hG⟩ := h
  refine (sync_at hA n).mono ?_
  rintro e w' ⟨rfl, s3, hA3, hl3, hc, hF⟩
  exact ⟨rfl, ⟨s3, hA3, hl3, fun k hk => hG k (hF k hk)⟩, hc.mono fun k _ h => hG k h⟩

set_option maxRecDepth 100000 in
set_option maxHeartbeats 4000000 in
theorem read_at {w : World} {d : Nat} {s : S} (h : At w d s) (n : ByteArray) :
    Calls Tryz.prog 50 #[dp d, .string n] w fun e w' => e = .returned (.tuple #[.string ⟨(s.lg.readS n.data.toList).toArray⟩, .int .i64 (s.lg.findC n.data.toList)]) ∧ w' = w := by
  have HF := Lib.hid (find_any h n)
  have hin := findC_in s n.data.toList
  unfold Lg.readS
  rw [findC_lg]
  by_cases hc : s.findC n.data.toList = 0
  · obtain ⟨f, hl, hp⟩ := findP_ok hc
    rw [hc, hp] at HF
    rw [if_pos hc, hc, old_lg hl]
    have hf : File w f := h.file _ (look_mem hl)
    have k0 : w.cell? ⟨f.blk, 0, none⟩ = some f.v := cell_of_row _ _ _ _ _ _ hf.1
    have k1 := conv_own hf.2.1
    obtain ⟨a', c', k3⟩ := hf.2.1.shape
    rw [k3] at k0 k1
    show Calls Tryz.prog 50 #[dp d, .string n] w fun e w' => e = .returned (.tuple #[.string ⟨f.data.toArray⟩, .int .i64 0]) ∧ w' = w
    clear hc hin h hf hl
    unfold dp at HF ⊢
    go_enter Tryz.func50, Tryz.ntmps50
    go_wp2_with (go_at_call 71; (with_reducible refine HF.out.mono ?_); rintro e w1 ⟨rfl, rfl⟩)
    go_ret2
    exact ⟨rfl, rfl⟩
  · rw [if_neg hc]
    rw [findP_no hc] at HF
    clear h
    generalize s.findC n.data.toList = c at HF hin hc ⊢
    unfold dp at HF ⊢
    go_enter Tryz.func50, Tryz.ntmps50
    go_wp2_with (go_at_call 71; (with_reducible refine HF.out.mono ?_); rintro e w1 ⟨rfl, rfl⟩)
    go_ret2
    exact ⟨rfl, rfl⟩
theorem read_any {w : World} {d : Nat} {l : Lg} {G : Nat → Prop} (h : Dk w d l G) (n : ByteArray) :
    Calls Tryz.prog 50 #[dp d, .string n] w fun e w' => e = .returned (.tuple #[.string ⟨(l.readS n.data.toList).toArray⟩, .int .i64 (l.findC n.data.toList)]) ∧ w' = w := by
  obtain ⟨s, hA, rfl, hG⟩ := h
  exact read_at hA n
end Go.Proofs.YtogihpofkjpokaaGreatDoor.D4
