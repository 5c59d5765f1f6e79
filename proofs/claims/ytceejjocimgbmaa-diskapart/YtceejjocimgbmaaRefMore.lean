/- The walks of the document's Delete, Read, Rename. -/
import Derived.Test.YtceejjocimgbmaaRefOps
namespace Go.Proofs.Ytceejjocimgbmaa
open Go Go.RowKit Go.Maps

set_option maxRecDepth 100000 in
set_option maxHeartbeats 8000000 in
theorem rdelete_any {w : World} {d : Nat} {l : Lg} {v : Value} (h : RAt w d l v) (ho : l.Ok) (hlen : l.fs.length ≤ 1000) (n : ByteArray) :
    Calls Try.prog 31 #[dp d, .string n] w fun e w' => e = .returned (.int .i64 (l.syncC n.data.toList)) ∧ RGot w w' d v (l.dele n.data.toList) := by
  have c3 := h.c3
  have HN := Lib.hid (rName_any n w)
  have H := Lib.hid h
  rcases ways l n.data.toList with ⟨hd, hf⟩ | ⟨hd, hn, hf⟩ | ⟨hd, hn, hl, hf⟩ | ⟨x, hd, hn, hl, hf, hold⟩
  · obtain ⟨e1, -, e2⟩ := sync_no hf (by decide)
    rw [e1, e2]
    rw [hd] at c3
    clear h hd hf e1 e2
    unfold dp
    go_enter Try.func31, Try.ntmps31
    go_wp2
    go_ret
    exact ⟨rfl, RGot.same H.out⟩
  · obtain ⟨e1, -, e2⟩ := sync_no hf (by decide)
    rw [e1, e2]
    rw [hd] at c3
    rw [hn] at HN
    clear h hd hn hf e1 e2
    unfold dp
    go_enter Try.func31, Try.ntmps31
    go_wp2_with (go_at_call 39; (with_reducible refine HN.out.mono ?_); rintro e w1 ⟨rfl, rfl⟩)
    go_ret
    exact ⟨rfl, RGot.same H.out⟩
  · obtain ⟨e1, -, e2⟩ := sync_no hf (by decide)
    rw [e1, e2]
    rw [hd] at c3
    rw [hn] at HN
    have HAT := Lib.hid (rat_no hl (by omega) h)
    unfold dp at HAT
    clear h hd hn hf e1 e2 hl
    unfold dp
    go_enter Try.func31, Try.ntmps31
    go_wp2_with (first | (go_at_call 39; (with_reducible refine HN.out.mono ?_); rintro e w1 ⟨rfl, rfl⟩) | (go_at_call 41; (with_reducible refine HAT.out.mono ?_); rintro e w1 ⟨rfl, rfl⟩))
    go_ret
    exact ⟨rfl, RGot.same H.out⟩
  · rw [hd] at c3
    rw [hn] at HN
    obtain ⟨k0, hk0, hx0, hat0⟩ := rat_yes (d := d) hl (by omega)
    have HAT0 := Lib.hid (hat0 w v h)
    have hkk : (0 : Int) ≤ (k0 : Int) := by omega
    have HS := Lib.hid (rstep_any h ho)
    clear hat0 hx0
    cases hg : l.go with
    | false =>
      obtain ⟨e1, -, e2⟩ := sync_stop hf hg
      rw [e1, e2]
      rw [hg] at HS
      simp only [Bool.false_eq_true, if_false] at HS
      unfold dp at HS HAT0
      clear h hd hn hf e1 e2 hl hg hold
      unfold dp
      go_enter Try.func31, Try.ntmps31
      go_wp2_with (first | (go_at_call 39; (with_reducible refine HN.out.mono ?_); rintro e w1 ⟨rfl, rfl⟩) | (go_at_call 41; (with_reducible refine HAT0.out.mono ?_); rintro e w1 ⟨rfl, rfl⟩) | (go_at_call 40; (with_reducible refine HS.out.mono ?_); rintro e w2 ⟨rfl, h2, hc2⟩))
      go_ret
      exact ⟨rfl, v, h2, fun _ hj => .inl hj, hc2⟩
    | true =>
      obtain ⟨e1, -, e2⟩ := sync_yes hf hg hold
      rw [e1, e2]
      rw [hg] at HS
      simp only [if_true] at HS
      have hlen' : l.step.fs.length ≤ 1000000 := by rw [step_fs']; omega
      have HQ := Lib.hid (fun W (h1 : RAt W d l.step v) => rdrop_any h1 hlen' n)
      unfold dp at HS HAT0 HQ
      clear h hd hn hf e1 e2 hl hg hold
      unfold dp
      go_enter Try.func31, Try.ntmps31
      go_wp2_with (first | (go_at_call 39; (with_reducible refine HN.out.mono ?_); rintro e w1 ⟨rfl, rfl⟩) | (go_at_call 41; (with_reducible refine HAT0.out.mono ?_); rintro e w1 ⟨rfl, rfl⟩) | (go_at_call 40; (with_reducible refine HS.out.mono ?_); rintro e w2 ⟨rfl, h2, hc2⟩; have H2 := Lib.hid h2; clear h2) | (go_at_call 49; (with_reducible refine (HQ.out _ H2.out).mono ?_); rintro e w3 ⟨rfl, v', h3, h4, h5⟩))
      go_ret
      exact ⟨rfl, v', h3, fun j hj => .inr (Nat.le_trans hc2.size (h4 j hj)), hc2.tr h5⟩
theorem readS_no {l : Lg} {n : List UInt8} {c : Int} (h : l.findC n = c) (hc : c ≠ 0) : l.readS n = [] := by unfold Lg.readS; rw [h, if_neg hc]
theorem readS_yes {l : Lg} {n : List UInt8} {x : List UInt8 × Nat} (h : l.findC n = 0) (ho : l.old n = x) : l.readS n = x.1 := by unfold Lg.readS; rw [h, if_pos rfl, ho]
set_option maxRecDepth 100000 in
set_option maxHeartbeats 8000000 in
theorem rread_any {w : World} {d : Nat} {l : Lg} {v : Value} (h : RAt w d l v) (hlen : l.fs.length ≤ 1000) (n : ByteArray) :
    Calls Try.prog 36 #[dp d, .string n] w fun e w' => e = .returned (.tuple #[.string (txt (l.readS n.data.toList)), .int .i64 (l.findC n.data.toList)]) ∧ ∃ q, w' = w.drewN q := by
  have c3 := h.c3
  have HN := Lib.hid (rName_any n w)
  rcases ways l n.data.toList with ⟨hd, hf⟩ | ⟨hd, hn, hf⟩ | ⟨hd, hn, hl, hf⟩ | ⟨x, hd, hn, hl, hf, hold⟩
  · rw [readS_no hf (by decide), hf]
    rw [hd] at c3
    clear h hd hf
    unfold dp txt
    go_enter Try.func36, Try.ntmps36
    go_wp2
    go_ret2
    exact ⟨rfl, 0, rfl⟩
  · rw [readS_no hf (by decide), hf]
    rw [hd] at c3
    rw [hn] at HN
    clear h hd hn hf
    unfold dp txt
    go_enter Try.func36, Try.ntmps36
    go_wp2_with (go_at_call 39; (with_reducible refine HN.out.mono ?_); rintro e w1 ⟨rfl, rfl⟩)
    go_ret2
    exact ⟨rfl, 0, rfl⟩
  · rw [readS_no hf (by decide), hf]
    rw [hd] at c3
    rw [hn] at HN
    have HAT := Lib.hid (rat_no hl (by omega) h)
    unfold dp at HAT
    clear h hd hn hf hl
    unfold dp txt
    go_enter Try.func36, Try.ntmps36
    go_wp2_with (first | (go_at_call 39; (with_reducible refine HN.out.mono ?_); rintro e w1 ⟨rfl, rfl⟩) | (go_at_call 41; (with_reducible refine HAT.out.mono ?_); rintro e w1 ⟨rfl, rfl⟩))
    go_ret2
    exact ⟨rfl, 0, rfl⟩
  · rw [readS_yes hf hold, hf]
    rw [hd] at c3
    rw [hn] at HN
    obtain ⟨k, hk, hx, hat⟩ := rat_yes (d := d) hl (by omega)
    have hkk : (0 : Int) ≤ (k : Int) := by omega
    have hkI : (k : Int) < (l.fs.length : Int) := by omega
    have HAT : Hid (∀ q, Calls Try.prog 41 #[dp d, .string n] (w.drewN q) fun e w' => e = .returned (.int .i64 (k : Int)) ∧ w' = w.drewN q) := Lib.hid fun q => hat _ _ (h.drewN q)
    have HAT0 := Lib.hid (hat _ _ h)
    obtain ⟨a, cap, e, hR, -⟩ := h.rd
    subst e
    obtain ⟨b, off, e, -, -, -⟩ := hR k hk
    subst e
    obtain ⟨-, m1, -⟩ := h.file hk hx
    have c0 := h.c0
    unfold dp at HAT HAT0
    clear h hd hn hf hl hat hx hR hold
    unfold dp
    go_enter Try.func36, Try.ntmps36
    go_wp2_with (first | (go_at_call 39; (with_reducible refine HN.out.mono ?_); rintro e w1 ⟨rfl, rfl⟩) | (go_at_call 41; (with_reducible refine HAT0.out.mono ?_); rintro e w1 ⟨rfl, rfl⟩))
    go_quiet ((go_at_call 41; exact Calls.quiet_of_same (HAT.out _)))
    go_wp2
    go_ret2
    exact ⟨rfl, _, rfl⟩
theorem ren_ways (l : Lg) (n m : List UInt8) : (l.down = true ∧ l.renC n m = 3 ∧ l.ren n m = l) ∨ (l.down = false ∧ nameB m = false ∧ l.renC n m = 1 ∧ l.ren n m = l) ∨
    (l.down = false ∧ nameB m = true ∧ l.renC n m = l.syncC n ∧ l.ren n m = if l.findC n = 0 then (if l.go then { l.step with fs := put m (l.old n) (del n l.step.fs) } else l.step) else l) := by
  unfold Lg.renC Lg.ren
  cases l.down with
  | true => exact .inl ⟨rfl, rfl, rfl⟩
  | false =>
    cases nameB m with
    | false => exact .inr (.inl ⟨rfl, rfl, rfl, rfl⟩)
    | true => exact .inr (.inr ⟨rfl, rfl, rfl, by rw [step_fs']; rfl⟩)
theorem del_asc' (l : Lg) (h : Asc l.fs) (n : List UInt8) : Asc (del n l.fs) := del_asc h
set_option maxRecDepth 100000 in
set_option maxHeartbeats 8000000 in
theorem rrename_any {w : World} {d : Nat} {l : Lg} {v : Value} (h : RAt w d l v) (ho : l.Ok) (hlen : l.fs.length ≤ 1000) (n m : ByteArray) :
    Calls Try.prog 29 #[dp d, .string n, .string m] w fun e w' => e = .returned (.int .i64 (l.renC n.data.toList m.data.toList)) ∧ RGot w w' d v (l.ren n.data.toList m.data.toList) := by
  have c3 := h.c3
  have HN := Lib.hid (rName_any n w)
  have HM := Lib.hid (rName_any m w)
  have H := Lib.hid h
  rcases ren_ways l n.data.toList m.data.toList with ⟨hd, e1, e2⟩ | ⟨hd, hm, e1, e2⟩ | ⟨hd, hm, e1, e2⟩
  · rw [e1, e2]
    rw [hd] at c3
    clear h hd e1 e2
    unfold dp
    go_enter Try.func29, Try.ntmps29
    go_wp2
    go_ret
    exact ⟨rfl, RGot.same H.out⟩
  · rw [e1, e2]
    rw [hd] at c3
    rw [hm] at HM
    clear h hd hm e1 e2
    cases hn : nameB n.data.toList with
    | false =>
      rw [hn] at HN
      clear hn
      unfold dp
      go_enter Try.func29, Try.ntmps29
      go_wp2_with (go_at_call 39; (with_reducible refine HN.out.mono ?_); rintro e w1 ⟨rfl, rfl⟩)
      go_ret
      exact ⟨rfl, RGot.same H.out⟩
    | true =>
      rw [hn] at HN
      clear hn
      unfold dp
      go_enter Try.func29, Try.ntmps29
      go_wp2_with (first | (go_at_call 39; (with_reducible refine HN.out.mono ?_); rintro e w1 ⟨rfl, rfl⟩) | (go_at_call 39; (with_reducible refine HM.out.mono ?_); rintro e w1 ⟨rfl, rfl⟩))
      go_ret
      exact ⟨rfl, RGot.same H.out⟩
  · rw [hd] at c3
    rw [hm] at HM
    rcases ways l n.data.toList with ⟨hd', hf⟩ | ⟨-, hn, hf⟩ | ⟨-, hn, hl, hf⟩ | ⟨x, -, hn, hl, hf, hold⟩
    · rw [hd] at hd'; cases hd'
    · rw [hf, if_neg (by decide)] at e2
      rw [e1, e2, (sync_no hf (by decide)).1]
      rw [hn] at HN
      clear h hd hn hf e1 e2
      unfold dp
      go_enter Try.func29, Try.ntmps29
      go_wp2_with (go_at_call 39; (with_reducible refine HN.out.mono ?_); rintro e w1 ⟨rfl, rfl⟩)
      go_ret
      exact ⟨rfl, RGot.same H.out⟩
    · rw [hf, if_neg (by decide)] at e2
      rw [e1, e2, (sync_no hf (by decide)).1]
      rw [hn] at HN
      have HAT := Lib.hid (rat_no hl (by omega) h)
      unfold dp at HAT
      clear h hd hn hf e1 e2 hl
      unfold dp
      go_enter Try.func29, Try.ntmps29
      go_wp2_with (first | (go_at_call 39; (with_reducible refine HN.out.mono ?_); rintro e w1 ⟨rfl, rfl⟩) | (go_at_call 39; (with_reducible refine HM.out.mono ?_); rintro e w1 ⟨rfl, rfl⟩) | (go_at_call 41; (with_reducible refine HAT.out.mono ?_); rintro e w1 ⟨rfl, rfl⟩))
      go_ret
      exact ⟨rfl, RGot.same H.out⟩
    · rw [hn] at HN
      rw [hf, if_pos rfl, hold] at e2
      obtain ⟨k0, hk0, hx0, hat0⟩ := rat_yes (d := d) hl (by omega)
      have HAT0 := Lib.hid (hat0 w v h)
      have hkk : (0 : Int) ≤ (k0 : Int) := by omega
      have HS := Lib.hid (rstep_any h ho)
      clear hat0 hx0
      cases hg : l.go with
      | false =>
        rw [hg] at e2 HS
        rw [e1, e2, (sync_stop hf hg).1]
        simp only [Bool.false_eq_true, if_false] at HS ⊢
        unfold dp at HS HAT0
        clear h hd hn hf e1 e2 hl hg hold
        unfold dp
        go_enter Try.func29, Try.ntmps29
        go_wp2_with (first | (go_at_call 39; (with_reducible refine HN.out.mono ?_); rintro e w1 ⟨rfl, rfl⟩) | (go_at_call 39; (with_reducible refine HM.out.mono ?_); rintro e w1 ⟨rfl, rfl⟩) | (go_at_call 41; (with_reducible refine HAT0.out.mono ?_); rintro e w1 ⟨rfl, rfl⟩) | (go_at_call 40; (with_reducible refine HS.out.mono ?_); rintro e w2 ⟨rfl, h2, hc2⟩))
        go_ret
        exact ⟨rfl, v, h2, fun _ hj => .inl hj, hc2⟩
      | true =>
        rw [hg] at e2 HS
        rw [e1, e2, (sync_yes hf hg hold).1]
        simp only [if_true] at HS ⊢
        have hlen' : l.step.fs.length ≤ 1000000 := by rw [step_fs']; omega
        have hasc : Asc l.step.fs := by rw [step_fs']; exact ho.asc
        have hl' : look n.data.toList l.step.fs = some x := by rw [step_fs']; exact hl
        obtain ⟨k, hk, hx, hat⟩ := rat_yes (d := d) hl' hlen'
        have HAT := Lib.hid hat
        have how : ∀ j, v.ownBlock = some j → j < w.heap.size := fun j hj => (h.own.own j hj).2
        have hdw := lt_of_heap h.blk
        have HOW := Lib.hid how
        have HD := Lib.hid (fun W (h1 : RAt W d l.step v) => rdrop_any h1 hlen' n)
        have HQ : Hid (∀ W v1, RAt W d { l.step with fs := del n.data.toList l.step.fs } v1 → Calls Try.prog 42 #[dp d, .agg #[.string m, .string (txt x.1), .int .i64 (x.2 : Int)]] W fun e w' => e = .returned (.tuple #[]) ∧ ∃ v', RAt w' d { l.step with fs := put m.data.toList x (del n.data.toList l.step.fs) } v' ∧ (∀ j, v'.ownBlock = some j → W.heap.size ≤ j) ∧ Ch (fun j => j = d) W w') := Lib.hid fun W v1 h1 => rput_any h1 (del_asc hasc) (Nat.le_trans (del_len _ _) hlen') m (txt x.1) x.2
        have HR : Hid (∀ W, RAt W d l.step v → ∃ b off cap, v = .slice (some ⟨b, off, none⟩) l.step.fs.length cap ∧ W.cell? ⟨b, off + k * 3, none⟩ = some (.string n) ∧ W.cell? ⟨b, off + k * 3 + 1, none⟩ = some (.string (txt x.1)) ∧ W.cell? ⟨b, off + k * 3 + 2, none⟩ = some (.int .i64 (x.2 : Int))) := Lib.hid fun W h1 => by
          obtain ⟨a, cap, e, hR, -⟩ := h1.rd
          subst e
          obtain ⟨b, off, e, -, -, -⟩ := hR k hk
          subst e
          exact ⟨b, off, cap, rfl, h1.file hk hx⟩
        have hk0' : (0 : Int) ≤ (k : Int) := by omega
        have hkI : (k : Int) < (l.step.fs.length : Int) := by omega
        unfold dp at HS HQ HAT HAT0 HD
        clear h hd hn hf e1 e2 hl hl' hg hold how hat hx ho hasc
        unfold dp
        go_enter Try.func29, Try.ntmps29
        go_wp2_with (first | (go_at_call 39; (with_reducible refine HN.out.mono ?_); rintro e w1 ⟨rfl, rfl⟩) | (go_at_call 39; (with_reducible refine HM.out.mono ?_); rintro e w1 ⟨rfl, rfl⟩) | (go_at_call 41; (with_reducible refine HAT0.out.mono ?_); rintro e w1 ⟨rfl, rfl⟩) | (go_at_call 40; (with_reducible refine HS.out.mono ?_); rintro e w2 ⟨rfl, h2, hc2⟩; have H2 := Lib.hid h2; clear h2; obtain ⟨b, off, cap, rfl, m0, m1, m2⟩ := HR.out _ H2.out; have c0 := H2.out.c0))
        have n0 := fun o => (H2.out.alloc o).c0
        have n1 : ∀ o, (w2.alloc o).cell? ⟨b, off + k * 3, none⟩ = some (.string n) := fun o => (Ch.alloc (fun _ => False) w2 o).cell m0 id
        have n2 : ∀ o, (w2.alloc o).cell? ⟨b, off + k * 3 + 1, none⟩ = some (.string (txt x.1)) := fun o => (Ch.alloc (fun _ => False) w2 o).cell m1 id
        have n3 : ∀ o, (w2.alloc o).cell? ⟨b, off + k * 3 + 2, none⟩ = some (.int .i64 (x.2 : Int)) := fun o => (Ch.alloc (fun _ => False) w2 o).cell m2 id
        go_region_with (go_at_call 41; first | ((with_reducible refine (HAT.out _ _ H2.out.drew).mono ?_); rintro e w3 ⟨rfl, rfl⟩) | ((with_reducible refine (HAT.out _ _ (H2.out.alloc _).drew).mono ?_); rintro e w3 ⟨rfl, rfl⟩))
        all_goals (
          have HW5 := Lib.hid (H2.out.alloc (.cells #[.string n, .string (txt x.1), .int .i64 (x.2 : Int)] 74)).drew
          have HC5 : Hid (Ch (fun k => k = d) w1 (w2.alloc (.cells #[.string n, .string (txt x.1), .int .i64 (x.2 : Int)] 74)).drew) := Lib.hid ((hc2.tr (Ch.alloc _ _ _)).tr (Ch.drew _ _))
          have hB5 : (w2.alloc (.cells #[.string n, .string (txt x.1), .int .i64 (x.2 : Int)] 74)).drew.heap[w2.heap.size]? = some (.cells #[.string n, .string (txt x.1), .int .i64 (x.2 : Int)] 74 (0, 0)) := heap_alloc_new w2 _
          have HB5 := Lib.hid hB5
          have hz := hc2.size
          clear n0 n1 n2 n3 m0 m1 m2 c0 hc2 H2 hB5
          generalize (w2.alloc (.cells #[.string n, .string (txt x.1), .int .i64 (x.2 : Int)] 74)).drew = W5 at *
          generalize w2.heap.size = bx at *
          go_wp2_with (first
            | (go_at_call 49; (with_reducible refine (HD.out _ HW5.out).mono ?_); rintro e w6 ⟨rfl, v6, h6, o6, c6⟩; have H6 := Lib.hid h6; have hB6 := (c6.block bx (lt_of_heap HB5.out) (by omega)).trans HB5.out; have hz6 := c6.size; have e0 : w6.cell? ⟨bx, 0, none⟩ = some (.string n) := cell_of_row _ _ _ _ _ _ hB6; have e1 : w6.cell? ⟨bx, 1, none⟩ = some (.string (txt x.1)) := cell_of_row _ _ _ _ _ _ hB6; have e2 : w6.cell? ⟨bx, 2, none⟩ = some (.int .i64 (x.2 : Int)) := cell_of_row _ _ _ _ _ _ hB6; have g0 : w6.frozen? ⟨bx, 0, none⟩ = false := frozen_of_row _ _ _ _ _ hB6; have HO6 : Hid (∀ j, v6.ownBlock = some j → ¬ j = bx) := Lib.hid (fun j hj e => by have := o6 j hj; have := lt_of_heap HB5.out; omega); have HC6 := Lib.hid (HC5.out.tr c6); clear h6 hB6 o6 c6)
            | (go_at_call 42; (with_reducible refine (HQ.out _ _ (H6.out.keep (Ch.set1 _ bx 0 _) (by omega) fun j hj => HO6.out j hj)).mono ?_); rintro e w4 ⟨rfl, v', h1, h2, h3⟩))
          go_ret
          have hc6 := HC6.out.trans (Ch.set1 w6 bx 0 (.string m)) fun j hj e => by omega
          exact ⟨rfl, v', h1, fun j hj => .inr (Nat.le_trans hc6.size (h2 j hj)), hc6.tr h3⟩)
end Go.Proofs.Ytceejjocimgbmaa
