/- The walks of add and renew. -/
import Derived.Test.YtogihpofkjpokaaGreatDoorCStore
import Derived.BigQuiet
namespace Go.Proofs.YtogihpofkjpokaaGreatDoor
open Go Go.RowKit Go.Maps
open D4 (put Asc RdS Dk Lg More dp lt_of_heap)
open F5 (txt txt_size txt_data data_txt OwT RdT frameL flat sv)

/-- What a Commit writes. -/
def batchL (fresh : Tx) (root : List UInt8) : List UInt8 := framesL fresh ++ fr 114 root
theorem batchL_length (fresh : Tx) (root : List UInt8) : (batchL fresh root).length = liveK fresh + (13 + root.length) := by
  unfold batchL; rw [List.length_append, framesL_length, fr_length]
/-- Is the log to be written anew? -/
def SS.anew (s : SS) (n : Nat) : Bool := s.torn || decide (2 * (s.live + n) + 1000 < s.size + n)
def addC (l : Lg) (s : SS) (kept fresh : Tx) (root : List UInt8) : Int :=
  if s.anew (batchL fresh root).length then repC l (framesL kept ++ batchL fresh root) else extC l (batchL fresh root)
def addL (l : Lg) (s : SS) (kept fresh : Tx) (root : List UInt8) : Lg :=
  if s.anew (batchL fresh root).length then repL l (framesL kept ++ batchL fresh root) else extL l (batchL fresh root)
def addS (l : Lg) (s : SS) (kept fresh : Tx) (root : List UInt8) : SS :=
  if addC l s kept fresh root = 0 then
    (if s.anew (batchL fresh root).length then { s with size := (framesL kept ++ batchL fresh root).length, torn := false, live := s.live + liveK fresh } else { s with size := s.size + (batchL fresh root).length, live := s.live + liveK fresh })
  else s
theorem SD.after {D : Nat → Prop} {w W w' : World} {sb : Nat} {s s' : SS} {l l' : Lg} (hw : SD w sb s l D) (hb : Below w.heap.size w W) (h : SD w' sb s' l' (More D W w')) : SD w' sb s' l' (More D w w') :=
  h.mono (fun _ _ hk => hk.imp id fun e => ⟨Nat.le_trans hb.size e.1, e.2⟩) (More.not hw.apart hw.at_.lt)
theorem mapOff {m : Option Nat} {sb : Nat} {D : Nat → Prop} {w : World} {s : SS} {l : Tx} (h : Pile w m l) (hs : SAt w sb s) (hd : ∀ b, m = some b → ¬ D b) : ∀ b, m = some b → ¬ (b = sb ∨ D b) := fun b e => by
  rintro (rfl | h')
  · obtain ⟨es, c, ho⟩ := h.obj e
    unfold SAt at hs
    rw [hs] at ho
    cases ho
  · exact hd b e h'
set_option maxRecDepth 100000 in
set_option maxHeartbeats 8000000 in
theorem add_any {w : World} {sb : Nat} {s : SS} {l : Lg} {D : Nat → Prop} {km fm : Option Nat} {kept fresh : Tx} (h : SD w sb s l D) (hk : Pile w km kept) (hf : Pile w fm fresh) (fk : Fits kept) (ff : Fits fresh) (root : List UInt8)
    (hr : root.length ≤ 1000) (hl : l.fs.length ≤ 1000) (hz : s.size ≤ 10000000) (hv : s.live ≤ 10000000) :
    Calls Tryz.prog 37 #[.pointer (some ⟨sb, 0, none⟩), .map km, .map fm, .string (txt root)] w fun e w' => e = .returned (.int .i64 (addC l s kept fresh root)) ∧ SD w' sb (addS l s kept fresh root) (addL l s kept fresh root) (More D w w') ∧ Ch (fun k => k = sb ∨ D k) w w' := by
  have P1 := Lib.hid (framesOf_any hf ff)
  have P2 := Lib.hid (framed_any 114 root (by omega))
  have P3 : Hid (∀ W, Below w.heap.size w W → Calls Tryz.prog 61 #[.map km] W fun e w' => e = .returned (.string (txt (framesL kept))) ∧ Below W.heap.size W w') := Lib.hid fun W hW => framesOf_any (hk.new hW) fk
  have hlf := ff.live
  have hlk := fk.live
  have nb := batchL_length fresh root
  have ck : binOp .add 9 (.string (txt (framesL kept))) (.string (txt (batchL fresh root))) = pure (.string (txt (framesL kept ++ batchL fresh root))) := F5.cat _ _ (by rw [framesL_length, nb]; omega)
  have cb : binOp .add 9 (.string (txt (framesL fresh))) (.string (txt (fr 114 root))) = pure (.string (txt (batchL fresh root))) := F5.cat _ _ (by rw [framesL_length, fr_length]; omega)
  have PE : Hid (∀ W, Below w.heap.size w W → Calls Tryz.prog 64 #[.pointer (some ⟨sb, 0, none⟩), .string (txt (batchL fresh root))] W fun e w' => e = .returned (.int .i64 (extC l (batchL fresh root))) ∧ SD w' sb (if extC l (batchL fresh root) = 0 then { s with size := s.size + (batchL fresh root).length } else s) (extL l (batchL fresh root)) (More D w w') ∧ Ch (fun k => k = sb ∨ D k) w w') := Lib.hid fun W hW => by
    refine (extend_any (h.new hW) (batchL fresh root) hl (by rw [nb]; omega) (by omega)).mono ?_
    rintro e w' ⟨rfl, hS, hc⟩
    exact ⟨rfl, h.after hW hS, (Ch.of_new hW).tr hc⟩
  have PR : Hid (∀ W, Below w.heap.size w W → Calls Tryz.prog 63 #[.pointer (some ⟨sb, 0, none⟩), .string (txt (framesL kept ++ batchL fresh root))] W fun e w' => e = .returned (.int .i64 (repC l (framesL kept ++ batchL fresh root))) ∧ SD w' sb (if repC l (framesL kept ++ batchL fresh root) = 0 then { s with size := (framesL kept ++ batchL fresh root).length, torn := false } else s) (repL l (framesL kept ++ batchL fresh root)) (More D w w') ∧ Ch (fun k => k = sb ∨ D k) w w') := Lib.hid fun W hW => by
    refine (replace_any (h.new hW) (framesL kept ++ batchL fresh root) hl (by rw [List.length_append, framesL_length, nb]; omega)).mono ?_
    rintro e w' ⟨rfl, hS, hc⟩
    exact ⟨rfl, h.after hW hS, (Ch.of_new hW).tr hc⟩
  have H := Lib.hid h
  have hzf : (txt (framesL fresh)).size = liveK fresh := by rw [txt_size, framesL_length]
  have hzb : (txt (batchL fresh root)).size = (batchL fresh root).length := txt_size _
  have hzi : (s.size : Int) ≤ 10000000 := by omega
  have hvi : (s.live : Int) ≤ 10000000 := by omega
  have hb1 : ((batchL fresh root).length : Int) ≤ 10000000 := by omega
  have hf1 : ((liveK fresh : Nat) : Int) ≤ 10000000 := by omega
  unfold addC addL addS addC
  generalize framesL kept ++ batchL fresh root = al at *
  generalize framesL kept = kl at *
  generalize batchL fresh root = bl at *
  generalize fr 114 root = rl at *
  generalize framesL fresh = fl at *
  generalize liveK fresh = lf at *
  generalize txt al = ta at *
  generalize txt kl = tk at *
  generalize txt rl = tr at *
  generalize txt root = tro at *
  clear h hk hf fk ff nb hlk hlf hl hr hz hv
  cases ht : s.torn with
  | true =>
    have ea : s.anew bl.length = true := by unfold SS.anew; rw [ht]; rfl
    rw [ea]
    simp only [if_true]
    clear ea PE
    by_cases hc : repC l al = 0
    · rw [hc] at PR
      rw [hc]
      simp only [if_true] at PR ⊢
      clear hc
      go_enter Tryz.func37, Tryz.ntmps37
      go_wp2_with (first
        | (go_at_call 61; (with_reducible refine P1.out.mono ?_); rintro e w1 ⟨rfl, hB1⟩)
        | (go_at_call 62; (with_reducible refine (P2.out _).mono ?_); rintro e w2 ⟨rfl, hB2⟩))
      have hB : Below w.heap.size w w2 := hB1.trans (hB2.mono hB1.size)
      have hS2 := H.out.new hB
      have c1 := hS2.at_.c1
      have c2 := hS2.at_.c2
      have c3 := hS2.at_.c3
      rw [ht] at c3
      go_big_quiet (fail)
      have HBq := Lib.hid (hB.trans (Ch.below (Ch.drewN (fun _ => False) w2 nq) hB.size fun _ _ => id))
      clear c1 c2 c3 hS2 hB hB1 hB2
      generalize w2.drewN nq = W at HBq ⊢
      go_wp2_with (first
        | (go_at_call 61; (with_reducible refine (P3.out _ HBq.out).mono ?_); rintro e w3 ⟨rfl, hB3⟩; have HB3 := Lib.hid (HBq.out.trans (hB3.mono HBq.out.size)))
        | (go_at_call 63; (with_reducible refine (PR.out _ HB3.out).mono ?_); rintro e w4 ⟨rfl, hS3, hc3⟩; have k2 := hS3.at_.c2; have k3 := hS3.at_.fr 2; simp only at k2))
      go_ret
      refine ⟨rfl, (hS3.upd 2 _ (s' := { s with size := al.length, torn := false, live := s.live + lf }) rfl rfl).mono (fun k _ hk => More.wide (by simp [World.setCell]) k hk) (More.not H.out.apart H.out.at_.lt), hc3.tr (Ch.setCell _ _ _ fun _ => .inl rfl)⟩
    · simp only [hc, if_false] at PR ⊢
      generalize repC l al = cc at PR hc ⊢
      go_enter Tryz.func37, Tryz.ntmps37
      go_wp2_with (first
        | (go_at_call 61; (with_reducible refine P1.out.mono ?_); rintro e w1 ⟨rfl, hB1⟩)
        | (go_at_call 62; (with_reducible refine (P2.out _).mono ?_); rintro e w2 ⟨rfl, hB2⟩))
      have hB : Below w.heap.size w w2 := hB1.trans (hB2.mono hB1.size)
      have hS2 := H.out.new hB
      have c1 := hS2.at_.c1
      have c2 := hS2.at_.c2
      have c3 := hS2.at_.c3
      rw [ht] at c3
      go_big_quiet (fail)
      have HBq := Lib.hid (hB.trans (Ch.below (Ch.drewN (fun _ => False) w2 nq) hB.size fun _ _ => id))
      clear c1 c2 c3 hS2 hB hB1 hB2
      generalize w2.drewN nq = W at HBq ⊢
      go_wp2_with (first
        | (go_at_call 61; (with_reducible refine (P3.out _ HBq.out).mono ?_); rintro e w3 ⟨rfl, hB3⟩; have HB3 := Lib.hid (HBq.out.trans (hB3.mono HBq.out.size)))
        | (go_at_call 63; (with_reducible refine (PR.out _ HB3.out).mono ?_); rintro e w4 ⟨rfl, hS3, hc3⟩))
      go_ret
      exact ⟨rfl, hS3, hc3⟩
  | false =>
    by_cases hbig : 2 * (s.live + bl.length) + 1000 < s.size + bl.length
    · have ea : s.anew bl.length = true := by unfold SS.anew; rw [ht, decide_eq_true hbig]; rfl
      rw [ea]
      simp only [if_true]
      have hbig' : decide (2 * ((s.live : Int) + (bl.length : Int)) + 1000 < (s.size : Int) + (bl.length : Int)) = true := decide_eq_true (by omega)
      have hw1 : IntKind.i64.wrap ((s.size : Int) + (bl.length : Int)) = (s.size : Int) + (bl.length : Int) := by simp [IntKind.wrap, IntKind.bits, IntKind.signed]; omega
      have hw2 : IntKind.i64.wrap ((s.live : Int) + (bl.length : Int)) = (s.live : Int) + (bl.length : Int) := by simp [IntKind.wrap, IntKind.bits, IntKind.signed]; omega
      have hw3 : IntKind.i64.wrap (2 * ((s.live : Int) + (bl.length : Int))) = 2 * ((s.live : Int) + (bl.length : Int)) := by simp [IntKind.wrap, IntKind.bits, IntKind.signed]; omega
      have hw4 : IntKind.i64.wrap (2 * ((s.live : Int) + (bl.length : Int)) + 1000) = 2 * ((s.live : Int) + (bl.length : Int)) + 1000 := by simp [IntKind.wrap, IntKind.bits, IntKind.signed]; omega
      clear hbig ea PE
      by_cases hc : repC l al = 0
      · rw [hc] at PR
        rw [hc]
        simp only [if_true] at PR ⊢
        clear hc
        go_enter Tryz.func37, Tryz.ntmps37
        go_wp2_with (first
          | (go_at_call 61; (with_reducible refine P1.out.mono ?_); rintro e w1 ⟨rfl, hB1⟩)
          | (go_at_call 62; (with_reducible refine (P2.out _).mono ?_); rintro e w2 ⟨rfl, hB2⟩))
        have hB : Below w.heap.size w w2 := hB1.trans (hB2.mono hB1.size)
        have hS2 := H.out.new hB
        have c1 := hS2.at_.c1
        have c2 := hS2.at_.c2
        have c3 := hS2.at_.c3
        rw [ht] at c3
        go_big_quiet (fail)
        have HBq := Lib.hid (hB.trans (Ch.below (Ch.drewN (fun _ => False) w2 nq) hB.size fun _ _ => id))
        clear c1 c2 c3 hS2 hB hB1 hB2
        generalize w2.drewN nq = W at HBq ⊢
        go_wp2_with (first
          | (go_at_call 61; (with_reducible refine (P3.out _ HBq.out).mono ?_); rintro e w3 ⟨rfl, hB3⟩; have HB3 := Lib.hid (HBq.out.trans (hB3.mono HBq.out.size)))
          | (go_at_call 63; (with_reducible refine (PR.out _ HB3.out).mono ?_); rintro e w4 ⟨rfl, hS3, hc3⟩; have k2 := hS3.at_.c2; have k3 := hS3.at_.fr 2; simp only at k2))
        go_ret
        refine ⟨rfl, (hS3.upd 2 _ (s' := { s with size := al.length, torn := false, live := s.live + lf }) rfl rfl).mono (fun k _ hk => More.wide (by simp [World.setCell]) k hk) (More.not H.out.apart H.out.at_.lt), hc3.tr (Ch.setCell _ _ _ fun _ => .inl rfl)⟩
      · simp only [hc, if_false] at PR ⊢
        generalize repC l al = cc at PR hc ⊢
        go_enter Tryz.func37, Tryz.ntmps37
        go_wp2_with (first
          | (go_at_call 61; (with_reducible refine P1.out.mono ?_); rintro e w1 ⟨rfl, hB1⟩)
          | (go_at_call 62; (with_reducible refine (P2.out _).mono ?_); rintro e w2 ⟨rfl, hB2⟩))
        have hB : Below w.heap.size w w2 := hB1.trans (hB2.mono hB1.size)
        have hS2 := H.out.new hB
        have c1 := hS2.at_.c1
        have c2 := hS2.at_.c2
        have c3 := hS2.at_.c3
        rw [ht] at c3
        go_big_quiet (fail)
        have HBq := Lib.hid (hB.trans (Ch.below (Ch.drewN (fun _ => False) w2 nq) hB.size fun _ _ => id))
        clear c1 c2 c3 hS2 hB hB1 hB2
        generalize w2.drewN nq = W at HBq ⊢
        go_wp2_with (first
          | (go_at_call 61; (with_reducible refine (P3.out _ HBq.out).mono ?_); rintro e w3 ⟨rfl, hB3⟩; have HB3 := Lib.hid (HBq.out.trans (hB3.mono HBq.out.size)))
          | (go_at_call 63; (with_reducible refine (PR.out _ HB3.out).mono ?_); rintro e w4 ⟨rfl, hS3, hc3⟩))
        go_ret
        exact ⟨rfl, hS3, hc3⟩
    · have ea : s.anew bl.length = false := by unfold SS.anew; rw [ht, decide_eq_false hbig]; rfl
      rw [ea]
      simp only [Bool.false_eq_true, if_false]
      have hbig' : decide (2 * ((s.live : Int) + (bl.length : Int)) + 1000 < (s.size : Int) + (bl.length : Int)) = false := decide_eq_false (by omega)
      have hw1 : IntKind.i64.wrap ((s.size : Int) + (bl.length : Int)) = (s.size : Int) + (bl.length : Int) := by simp [IntKind.wrap, IntKind.bits, IntKind.signed]; omega
      have hw2 : IntKind.i64.wrap ((s.live : Int) + (bl.length : Int)) = (s.live : Int) + (bl.length : Int) := by simp [IntKind.wrap, IntKind.bits, IntKind.signed]; omega
      have hw3 : IntKind.i64.wrap (2 * ((s.live : Int) + (bl.length : Int))) = 2 * ((s.live : Int) + (bl.length : Int)) := by simp [IntKind.wrap, IntKind.bits, IntKind.signed]; omega
      have hw4 : IntKind.i64.wrap (2 * ((s.live : Int) + (bl.length : Int)) + 1000) = 2 * ((s.live : Int) + (bl.length : Int)) + 1000 := by simp [IntKind.wrap, IntKind.bits, IntKind.signed]; omega
      clear hbig ea PR P3
      by_cases hc : extC l bl = 0
      · rw [hc] at PE
        rw [hc]
        simp only [if_true] at PE ⊢
        clear hc
        go_enter Tryz.func37, Tryz.ntmps37
        go_wp2_with (first
          | (go_at_call 61; (with_reducible refine P1.out.mono ?_); rintro e w1 ⟨rfl, hB1⟩)
          | (go_at_call 62; (with_reducible refine (P2.out _).mono ?_); rintro e w2 ⟨rfl, hB2⟩))
        have hB : Below w.heap.size w w2 := hB1.trans (hB2.mono hB1.size)
        have hS2 := H.out.new hB
        have c1 := hS2.at_.c1
        have c2 := hS2.at_.c2
        have c3 := hS2.at_.c3
        rw [ht] at c3
        go_big_quiet (fail)
        have HBq := Lib.hid (hB.trans (Ch.below (Ch.drewN (fun _ => False) w2 nq) hB.size fun _ _ => id))
        clear c1 c2 c3 hS2 hB hB1 hB2
        generalize w2.drewN nq = W at HBq ⊢
        go_wp2_with (go_at_call 64; (with_reducible refine (PE.out _ HBq.out).mono ?_); rintro e w3 ⟨rfl, hS3, hc3⟩; have k2 := hS3.at_.c2; have k3 := hS3.at_.fr 2; simp only at k2)
        go_ret
        refine ⟨rfl, (hS3.upd 2 _ (s' := { s with size := s.size + bl.length, live := s.live + lf, torn := false }) (by simp only [SS.cells, ht]; rfl) rfl).mono (fun k _ hk => More.wide (by simp [World.setCell]) k hk) (More.not H.out.apart H.out.at_.lt), hc3.tr (Ch.setCell _ _ _ fun _ => .inl rfl)⟩
      · simp only [hc, if_false] at PE ⊢
        generalize extC l bl = cc at PE hc ⊢
        go_enter Tryz.func37, Tryz.ntmps37
        go_wp2_with (first
          | (go_at_call 61; (with_reducible refine P1.out.mono ?_); rintro e w1 ⟨rfl, hB1⟩)
          | (go_at_call 62; (with_reducible refine (P2.out _).mono ?_); rintro e w2 ⟨rfl, hB2⟩))
        have hB : Below w.heap.size w w2 := hB1.trans (hB2.mono hB1.size)
        have hS2 := H.out.new hB
        have c1 := hS2.at_.c1
        have c2 := hS2.at_.c2
        have c3 := hS2.at_.c3
        rw [ht] at c3
        go_big_quiet (fail)
        have HBq := Lib.hid (hB.trans (Ch.below (Ch.drewN (fun _ => False) w2 nq) hB.size fun _ _ => id))
        clear c1 c2 c3 hS2 hB hB1 hB2
        generalize w2.drewN nq = W at HBq ⊢
        go_wp2_with (go_at_call 64; (with_reducible refine (PE.out _ HBq.out).mono ?_); rintro e w3 ⟨rfl, hS3, hc3⟩)
        go_ret
        exact ⟨rfl, hS3, hc3⟩

def renS (l : Lg) (s : SS) (kept : Tx) (root : List UInt8) : SS :=
  if repC l (batchL kept root) = 0 then { s with size := (batchL kept root).length, torn := false, live := liveK kept } else s
set_option maxRecDepth 100000 in
set_option maxHeartbeats 8000000 in
theorem renew_any {w : World} {sb : Nat} {s : SS} {l : Lg} {D : Nat → Prop} {km : Option Nat} {kept : Tx} (h : SD w sb s l D) (hk : Pile w km kept) (fk : Fits kept) (root : List UInt8)
    (hr : root.length ≤ 1000) (hl : l.fs.length ≤ 1000) :
    Calls Tryz.prog 42 #[.pointer (some ⟨sb, 0, none⟩), .map km, .string (txt root)] w fun e w' => e = .returned (.int .i64 (repC l (batchL kept root))) ∧ SD w' sb (renS l s kept root) (repL l (batchL kept root)) (More D w w') ∧ Ch (fun k => k = sb ∨ D k) w w' := by
  have P1 := Lib.hid (framesOf_any hk fk)
  have P2 := Lib.hid (framed_any 114 root (by omega))
  have hlk := fk.live
  have nb := batchL_length kept root
  have cb : binOp .add 9 (.string (txt (framesL kept))) (.string (txt (fr 114 root))) = pure (.string (txt (batchL kept root))) := F5.cat _ _ (by rw [framesL_length, fr_length]; omega)
  have PR : Hid (∀ W, Below w.heap.size w W → Calls Tryz.prog 63 #[.pointer (some ⟨sb, 0, none⟩), .string (txt (batchL kept root))] W fun e w' => e = .returned (.int .i64 (repC l (batchL kept root))) ∧ SD w' sb (if repC l (batchL kept root) = 0 then { s with size := (batchL kept root).length, torn := false } else s) (repL l (batchL kept root)) (More D w w') ∧ Ch (fun k => k = sb ∨ D k) w w') := Lib.hid fun W hW => by
    refine (replace_any (h.new hW) (batchL kept root) hl (by rw [nb]; omega)).mono ?_
    rintro e w' ⟨rfl, hS, hc⟩
    exact ⟨rfl, h.after hW hS, (Ch.of_new hW).tr hc⟩
  have H := Lib.hid h
  have hzf : (txt (framesL kept)).size = liveK kept := by rw [txt_size, framesL_length]
  have hf1 : ((liveK kept : Nat) : Int) ≤ 10000000 := by omega
  unfold renS
  generalize batchL kept root = bl at *
  generalize fr 114 root = rl at *
  generalize framesL kept = fl at *
  generalize liveK kept = lf at *
  generalize txt bl = tb at *
  generalize txt rl = tr at *
  generalize txt root = tro at *
  clear h hk fk nb hlk hl hr
  by_cases hc : repC l bl = 0
  · rw [hc] at PR
    rw [hc]
    simp only [if_true] at PR ⊢
    clear hc
    go_enter Tryz.func42, Tryz.ntmps42
    go_wp2_with (first
      | (go_at_call 61; (with_reducible refine P1.out.mono ?_); rintro e w1 ⟨rfl, hB1⟩)
      | (go_at_call 62; (with_reducible refine (P2.out _).mono ?_); rintro e w2 ⟨rfl, hB2⟩; have HB := Lib.hid (hB1.trans (hB2.mono hB1.size)))
      | (go_at_call 63; (with_reducible refine (PR.out _ HB.out).mono ?_); rintro e w4 ⟨rfl, hS3, hc3⟩; have k2 := hS3.at_.c2; have k3 := hS3.at_.fr 2; simp only at k2))
    go_ret
    refine ⟨rfl, (hS3.upd 2 _ (s' := { s with size := bl.length, torn := false, live := lf }) rfl rfl).mono (fun k _ hk => More.wide (by simp [World.setCell]) k hk) (More.not H.out.apart H.out.at_.lt), hc3.tr (Ch.setCell _ _ _ fun _ => .inl rfl)⟩
  · simp only [hc, if_false] at PR ⊢
    generalize repC l bl = cc at PR hc ⊢
    go_enter Tryz.func42, Tryz.ntmps42
    go_wp2_with (first
      | (go_at_call 61; (with_reducible refine P1.out.mono ?_); rintro e w1 ⟨rfl, hB1⟩)
      | (go_at_call 62; (with_reducible refine (P2.out _).mono ?_); rintro e w2 ⟨rfl, hB2⟩; have HB := Lib.hid (hB1.trans (hB2.mono hB1.size)))
      | (go_at_call 63; (with_reducible refine (PR.out _ HB.out).mono ?_); rintro e w4 ⟨rfl, hS3, hc3⟩))
    go_ret
    exact ⟨rfl, hS3, hc3⟩
end Go.Proofs.YtogihpofkjpokaaGreatDoor
