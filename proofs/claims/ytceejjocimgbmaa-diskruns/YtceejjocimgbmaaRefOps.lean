/- The walks of the document's Sync, Delete, Rename, Read. -/
import Derived.Test.YtceejjocimgbmaaRefApp
namespace Go.Proofs.Ytceejjocimgbmaa
open Go Go.RowKit Go.Maps

def Lg.dele (l : Lg) (n : List UInt8) : Lg := if l.findC n = 0 then (if l.go then { l.step with fs := del n l.fs } else l.step) else l
def Lg.renC (l : Lg) (n m : List UInt8) : Int := if l.down then 3 else if nameB m then l.syncC n else 1
def Lg.ren (l : Lg) (n m : List UInt8) : Lg := if l.down then l else if nameB m then (if l.findC n = 0 then (if l.go then { l.step with fs := put m (l.old n) (del n l.fs) } else l.step) else l) else l
/-- The ways of a call on a name. -/
theorem ways (l : Lg) (n : List UInt8) : (l.down = true ∧ l.findC n = 3) ∨ (l.down = false ∧ nameB n = false ∧ l.findC n = 1) ∨ (l.down = false ∧ nameB n = true ∧ look n l.fs = none ∧ l.findC n = 4) ∨ ∃ x, l.down = false ∧ nameB n = true ∧ look n l.fs = some x ∧ l.findC n = 0 ∧ l.old n = x := by
  unfold Lg.findC Lg.old
  cases l.down with
  | true => exact .inl ⟨rfl, rfl⟩
  | false =>
    cases nameB n with
    | false => exact .inr (.inl ⟨rfl, rfl, rfl⟩)
    | true =>
      cases look n l.fs with
      | none => exact .inr (.inr (.inl ⟨rfl, rfl, rfl, rfl⟩))
      | some x => exact .inr (.inr (.inr ⟨x, rfl, rfl, rfl, rfl, rfl⟩))
theorem sync_no {l : Lg} {n : List UInt8} {c : Int} (h : l.findC n = c) (hc : c ≠ 0) : l.syncC n = c ∧ l.sync n = l ∧ l.dele n = l := by
  unfold Lg.syncC Lg.sync Lg.dele
  rw [h, if_neg hc, if_neg hc, if_neg hc]
  exact ⟨rfl, rfl, rfl⟩
theorem sync_stop {l : Lg} {n : List UInt8} (h : l.findC n = 0) (hg : l.go = false) : l.syncC n = 3 ∧ l.sync n = l.step ∧ l.dele n = l.step := by
  unfold Lg.syncC Lg.sync Lg.dele
  rw [h, hg]
  exact ⟨rfl, rfl, rfl⟩
theorem sync_yes {l : Lg} {n : List UInt8} {x : List UInt8 × Nat} (h : l.findC n = 0) (hg : l.go = true) (ho : l.old n = x) : l.syncC n = 0 ∧ l.sync n = { l.step with fs := put n (x.1, x.1.length) l.step.fs } ∧ l.dele n = { l.step with fs := del n l.step.fs } := by
  unfold Lg.syncC Lg.sync Lg.dele
  rw [h, hg, ho, step_fs']
  exact ⟨rfl, rfl, rfl⟩

set_option maxRecDepth 100000 in
set_option maxHeartbeats 8000000 in
theorem rsync_any {w : World} {d : Nat} {l : Lg} {v : Value} (h : RAt w d l v) (ho : l.Ok) (hlen : l.fs.length ≤ 1000) (n : ByteArray) :
    Calls Try.prog 22 #[dp d, .string n] w fun e w' => e = .returned (.int .i64 (l.syncC n.data.toList)) ∧ RGot w w' d v (l.sync n.data.toList) := by
  have c3 := h.c3
  have HN := Lib.hid (rName_any n w)
  have H := Lib.hid h
  rcases ways l n.data.toList with ⟨hd, hf⟩ | ⟨hd, hn, hf⟩ | ⟨hd, hn, hl, hf⟩ | ⟨x, hd, hn, hl, hf, hold⟩
  · obtain ⟨e1, e2, -⟩ := sync_no hf (by decide)
    rw [e1, e2]
    rw [hd] at c3
    clear h hd hf e1 e2
    unfold dp
    go_enter Try.func22, Try.ntmps22
    go_wp2
    go_ret
    exact ⟨rfl, RGot.same H.out⟩
  · obtain ⟨e1, e2, -⟩ := sync_no hf (by decide)
    rw [e1, e2]
    rw [hd] at c3
    rw [hn] at HN
    clear h hd hn hf e1 e2
    unfold dp
    go_enter Try.func22, Try.ntmps22
    go_wp2_with (go_at_call 39; (with_reducible refine HN.out.mono ?_); rintro e w1 ⟨rfl, rfl⟩)
    go_ret
    exact ⟨rfl, RGot.same H.out⟩
  · obtain ⟨e1, e2, -⟩ := sync_no hf (by decide)
    rw [e1, e2]
    rw [hd] at c3
    rw [hn] at HN
    have HAT := Lib.hid (rat_no hl (by omega) h)
    unfold dp at HAT
    clear h hd hn hf e1 e2 hl
    unfold dp
    go_enter Try.func22, Try.ntmps22
    go_wp2_with (first | (go_at_call 39; (with_reducible refine HN.out.mono ?_); rintro e w1 ⟨rfl, rfl⟩) | (go_at_call 41; (with_reducible refine HAT.out.mono ?_); rintro e w1 ⟨rfl, rfl⟩))
    go_ret
    exact ⟨rfl, RGot.same H.out⟩
  · rw [hd] at c3
    rw [hn] at HN
    obtain ⟨k0, hk0, hx0, hat0⟩ := rat_yes (d := d) hl (by omega)
    have HAT0 := Lib.hid (hat0 w v h)
    have hkk : (0 : Int) ≤ (k0 : Int) := by omega
    have HS := Lib.hid (rstep_any h ho)
    clear hat0 hx0
    cases hg : l.go with
    | false =>
      obtain ⟨e1, e2, -⟩ := sync_stop hf hg
      rw [e1, e2]
      rw [hg] at HS
      simp only [Bool.false_eq_true, if_false] at HS
      unfold dp at HS HAT0
      clear h hd hn hf e1 e2 hl hg hold
      unfold dp
      go_enter Try.func22, Try.ntmps22
      go_wp2_with (first | (go_at_call 39; (with_reducible refine HN.out.mono ?_); rintro e w1 ⟨rfl, rfl⟩) | (go_at_call 41; (with_reducible refine HAT0.out.mono ?_); rintro e w1 ⟨rfl, rfl⟩) | (go_at_call 40; (with_reducible refine HS.out.mono ?_); rintro e w2 ⟨rfl, h2, hc2⟩))
      go_ret
      exact ⟨rfl, v, h2, fun _ hj => .inl hj, hc2⟩
    | true =>
      obtain ⟨e1, e2, -⟩ := sync_yes hf hg hold
      rw [e1, e2]
      rw [hg] at HS
      simp only [if_true] at HS
      have hlen' : l.step.fs.length ≤ 1000000 := by rw [step_fs']; omega
      have hasc : Asc l.step.fs := by rw [step_fs']; exact ho.asc
      have hl' : look n.data.toList l.step.fs = some x := by rw [step_fs']; exact hl
      obtain ⟨k, hk, hx, hat⟩ := rat_yes (d := d) hl' hlen'
      have HAT := Lib.hid hat
      have how : ∀ j, v.ownBlock = some j → j < w.heap.size := fun j hj => (h.own.own j hj).2
      have hdw := lt_of_heap h.blk
      have HOW := Lib.hid how
      have hxl : x.1.length ≤ 1073741824 := by
        have h1 := usedN_take l.step.fs (k + 1)
        rw [take_at hk, usedN_snoc, hx] at h1
        have h2 : usedN l.step.fs = l.used := by rw [step_fs']; rfl
        have h3 := ho.most
        simp only at h1
        omega
      have hts := txt_size x.1
      have hsI : ((txt x.1).size : Int) ≤ 1073741824 := by omega
      have HQ : Hid (∀ W v1, RAt W d l.step v1 → Calls Try.prog 42 #[dp d, .agg #[.string n, .string (txt x.1), .int .i64 ((txt x.1).size : Int)]] W fun e w' => e = .returned (.tuple #[]) ∧ ∃ v', RAt w' d { l.step with fs := put n.data.toList (x.1, x.1.length) l.step.fs } v' ∧ (∀ j, v'.ownBlock = some j → W.heap.size ≤ j) ∧ Ch (fun j => j = d) W w') := Lib.hid fun W v1 h1 => rput_any h1 hasc hlen' n (txt x.1) (txt x.1).size
      have HR : Hid (∀ W, RAt W d l.step v → ∃ b off cap, v = .slice (some ⟨b, off, none⟩) l.step.fs.length cap ∧ W.cell? ⟨b, off + k * 3, none⟩ = some (.string n) ∧ W.cell? ⟨b, off + k * 3 + 1, none⟩ = some (.string (txt x.1)) ∧ W.cell? ⟨b, off + k * 3 + 2, none⟩ = some (.int .i64 (x.2 : Int))) := Lib.hid fun W h1 => by
        obtain ⟨a, cap, e, hR, -⟩ := h1.rd
        subst e
        obtain ⟨b, off, e, -, -, -⟩ := hR k hk
        subst e
        exact ⟨b, off, cap, rfl, h1.file hk hx⟩
      have hk0' : (0 : Int) ≤ (k : Int) := by omega
      have hkI : (k : Int) < (l.step.fs.length : Int) := by omega
      unfold dp at HS HQ HAT HAT0
      clear h hd hn hf e1 e2 hl hl' hg hold how hat hx hts hxl ho hasc
      unfold dp
      go_enter Try.func22, Try.ntmps22
      go_wp2_with (first | (go_at_call 39; (with_reducible refine HN.out.mono ?_); rintro e w1 ⟨rfl, rfl⟩) | (go_at_call 41; (with_reducible refine HAT0.out.mono ?_); rintro e w1 ⟨rfl, rfl⟩) | (go_at_call 40; (with_reducible refine HS.out.mono ?_); rintro e w2 ⟨rfl, h2, hc2⟩; have H2 := Lib.hid h2; clear h2; obtain ⟨b, off, cap, rfl, m0, m1, m2⟩ := HR.out _ H2.out; have c0 := H2.out.c0))
      have n0 := fun o => (H2.out.alloc o).c0
      have n1 : ∀ o, (w2.alloc o).cell? ⟨b, off + k * 3, none⟩ = some (.string n) := fun o => (Ch.alloc (fun _ => False) w2 o).cell m0 id
      have n2 : ∀ o, (w2.alloc o).cell? ⟨b, off + k * 3 + 1, none⟩ = some (.string (txt x.1)) := fun o => (Ch.alloc (fun _ => False) w2 o).cell m1 id
      have n3 : ∀ o, (w2.alloc o).cell? ⟨b, off + k * 3 + 2, none⟩ = some (.int .i64 (x.2 : Int)) := fun o => (Ch.alloc (fun _ => False) w2 o).cell m2 id
      go_region_with (go_at_call 41; first | ((with_reducible refine (HAT.out _ _ H2.out.drew).mono ?_); rintro e w3 ⟨rfl, rfl⟩) | ((with_reducible refine (HAT.out _ _ (H2.out.alloc _).drew).mono ?_); rintro e w3 ⟨rfl, rfl⟩))
      all_goals (
        have HW5 := Lib.hid (H2.out.alloc (.cells #[.string n, .string (txt x.1), .int .i64 (x.2 : Int)] 74)).drew
        have HC5 : Hid (Ch (fun k => k = d) w1 (w2.alloc (.cells #[.string n, .string (txt x.1), .int .i64 (x.2 : Int)] 74)).drew) := Lib.hid ((hc2.tr (Ch.alloc _ _ _)).tr (Ch.drew _ _))
        have hB5 : (w2.alloc (.cells #[.string n, .string (txt x.1), .int .i64 (x.2 : Int)] 74)).drew.heap[w2.heap.size]? = some (.cells #[.string n, .string (txt x.1), .int .i64 (x.2 : Int)] 74 (0, 0)) := heap_alloc_new w2 _
        have hz := hc2.size
        clear n0 n1 n2 n3 m0 m1 m2 c0 hc2 H2
        generalize (w2.alloc (.cells #[.string n, .string (txt x.1), .int .i64 (x.2 : Int)] 74)).drew = W5 at *
        generalize w2.heap.size = bx at *
        have e0 : W5.cell? ⟨bx, 0, none⟩ = some (.string n) := cell_of_row _ _ _ _ _ _ hB5
        have e1 : W5.cell? ⟨bx, 1, none⟩ = some (.string (txt x.1)) := cell_of_row _ _ _ _ _ _ hB5
        have e2 : W5.cell? ⟨bx, 2, none⟩ = some (.int .i64 (x.2 : Int)) := cell_of_row _ _ _ _ _ _ hB5
        have g2 : W5.frozen? ⟨bx, 2, none⟩ = false := frozen_of_row _ _ _ _ _ hB5
        clear hB5
        go_wp2_with (go_at_call 42; (with_reducible refine (HQ.out _ _ (HW5.out.keep (Ch.set1 _ bx 2 _) (by omega) fun j hj => by have := HOW.out j hj; omega)).mono ?_); rintro e w4 ⟨rfl, v', h1, h2, h3⟩)
        go_ret
        have hc6 := HC5.out.trans (Ch.set1 W5 bx 2 (.int .i64 ((txt x.1).size : Int))) fun j hj e => by omega
        exact ⟨rfl, v', h1, fun j hj => .inr (Nat.le_trans hc6.size (h2 j hj)), hc6.tr h3⟩)
end Go.Proofs.Ytceejjocimgbmaa
