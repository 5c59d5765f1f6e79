/- The walk of the document's Append. -/
import Derived.Test.YtceejjocimgbmaaRefFall
namespace Go.Proofs.Ytceejjocimgbmaa
open Go Go.RowKit Go.Maps

theorem step_room' (l : Lg) : l.step.room = l.room := by unfold Lg.step; split <;> (try split) <;> rfl
theorem RAt.drewN {w : World} {d : Nat} {l : Lg} {v : Value} (h : RAt w d l v) (q : Nat) : RAt (w.drewN q) d l v := h.keep (Ch.drewN (fun _ => False) w q) id fun _ _ => id
theorem RAt.drew {w : World} {d : Nat} {l : Lg} {v : Value} (h : RAt w d l v) : RAt w.drew d l v := h.keep (Ch.drew (fun _ => False) w) id fun _ _ => id
theorem RAt.alloc {w : World} {d : Nat} {l : Lg} {v : Value} (h : RAt w d l v) (o : Obj) : RAt (w.alloc o) d l v := h.new ((Below.refl _ _).alloc (Nat.le_refl _) o)
/-- Where a name stands, as it is told: it does, or it does not. -/
theorem rat_no {n : ByteArray} {l : Lg} {d : Nat} (hl : look n.data.toList l.fs = none) (hlen : l.fs.length ≤ 1000000) {W : World} {v : Value} (h : RAt W d l v) :
    Calls Try.prog 41 #[dp d, .string n] W fun e w' => e = .returned (.int .i64 (-1)) ∧ w' = W := by
  have := rat_any h n l.fs.length (place_none hl) hlen
  rwa [show placeC l.fs.length l.fs.length = -1 from if_neg (Nat.lt_irrefl _)] at this
theorem rat_yes {n : ByteArray} {l : Lg} {d : Nat} {x : List UInt8 × Nat} (hl : look n.data.toList l.fs = some x) (hlen : l.fs.length ≤ 1000000) :
    ∃ k, k < l.fs.length ∧ at_ l.fs k = (n.data.toList, x) ∧ ∀ W v, RAt W d l v → Calls Try.prog 41 #[dp d, .string n] W fun e w' => e = .returned (.int .i64 (k : Int)) ∧ w' = W := by
  obtain ⟨k, hp, hk, hx⟩ := place_some hl
  refine ⟨k, hk, hx, fun W v h => ?_⟩
  have := rat_any h n k hp hlen
  rwa [show placeC k l.fs.length = (k : Int) from if_pos hk] at this
/-- The cells of a file of it. -/
theorem RAt.file {w : World} {d : Nat} {l : Lg} {b off m cap : Nat} (h : RAt w d l (.slice (some ⟨b, off, none⟩) m cap)) {k : Nat} (hk : k < l.fs.length) {n : ByteArray} {x : List UInt8 × Nat} (hx : at_ l.fs k = (n.data.toList, x)) :
    w.cell? ⟨b, off + k * 3, none⟩ = some (.string n) ∧ w.cell? ⟨b, off + k * 3 + 1, none⟩ = some (.string (txt x.1)) ∧ w.cell? ⟨b, off + k * 3 + 2, none⟩ = some (.int .i64 (x.2 : Int)) := by
  obtain ⟨b', off', e, k0, k1, k2⟩ := h.rdw k hk
  injection e with e
  injection e with e1 e2
  subst e1 e2
  rw [hx] at k0 k1 k2
  exact ⟨k0, k1, k2⟩
theorem cat (l m : List UInt8) (h : l.length + m.length ≤ 4000000000) : binOp .add 9 (.string (txt l)) (.string (txt m)) = pure (.string (txt (l ++ m))) := by
  have e : txt l ++ txt m = txt (l ++ m) := by apply ByteArray.ext; simp [txt]
  have h2 : ¬ (((txt l).size + (txt m).size : Nat) : Int) > IntKind.i64.max := by rw [txt_size, txt_size, show IntKind.i64.max = 9223372036854775807 by decide]; omega
  simp only [binOp, Op.stringOp]
  rw [if_neg h2, e]
/-- A file stored into a box. -/
def box3 (W : World) (bx : Nat) (x y z : Value) : World := (((W.setCell ⟨bx, 0, none⟩ x).setCell ⟨bx, 1, none⟩ y).setCell ⟨bx, 2, none⟩ z).drew
theorem box3_row {W : World} {bx : Nat} {a b c : Value} {t : TypeId} (h : W.heap[bx]? = some (.cells #[a, b, c] t (0, 0))) (x y z : Value) : (box3 W bx x y z).heap[bx]? = some (.cells #[x, y, z] t (0, 0)) :=
  heap_setCell_same _ bx 2 _ t z (heap_setCell_same _ bx 1 _ t y (heap_setCell_same _ bx 0 _ t x h))
theorem box3_ch (W : World) (bx : Nat) (x y z : Value) : Ch (fun k => k = bx) W (box3 W bx x y z) := (((Ch.set1 W bx 0 x).tr (Ch.set1 _ bx 1 y)).tr (Ch.set1 _ bx 2 z)).tr (Ch.drew _ _)
/-- What a call on the document's disk leaves. -/
def RGot (w w' : World) (d : Nat) (v : Value) (l' : Lg) : Prop := ∃ v', RAt w' d l' v' ∧ (∀ j, v'.ownBlock = some j → v.ownBlock = some j ∨ w.heap.size ≤ j) ∧ Ch (fun j => j = d) w w'
theorem RGot.same {w : World} {d : Nat} {v : Value} {l : Lg} (h : RAt w d l v) : RGot w w d v l := ⟨v, h, fun _ hj => .inl hj, Ch.refl _ _⟩
theorem RGot.sameN {w : World} {d : Nat} {v : Value} {l : Lg} (h : RAt w d l v) (q : Nat) : RGot w (w.drewN q) d v l := ⟨v, h.drewN q, fun _ hj => .inl hj, Ch.drewN _ _ _⟩

set_option maxRecDepth 100000 in
set_option maxHeartbeats 8000000 in
theorem rappend_any {w : World} {d : Nat} {l : Lg} {v : Value} (h : RAt w d l v) (ho : l.Ok) (hlen : l.fs.length ≤ 1000) (n t : ByteArray) (ht : t.size ≤ 1000000000) :
    Calls Try.prog 21 #[dp d, .string n, .string t] w fun e w' => e = .returned (.int .i64 (l.appC n.data.toList t.data.toList)) ∧ RGot w w' d v (l.app n.data.toList t.data.toList) := by
  have c3 := h.c3
  have c1 := h.c1
  have HN := Lib.hid (rName_any n w)
  have H := Lib.hid h
  unfold Lg.appC Lg.app
  cases hd : l.down with
  | true =>
    rw [hd] at c3
    clear h hd
    unfold dp
    go_enter Try.func21, Try.ntmps21
    go_wp2
    go_ret
    exact ⟨rfl, RGot.same H.out⟩
  | false =>
    rw [hd] at c3
    cases hn : nameB n.data.toList with
    | false =>
      rw [hn] at HN
      clear h hd hn
      unfold dp
      go_enter Try.func21, Try.ntmps21
      go_wp2_with (go_at_call 39; (with_reducible refine HN.out.mono ?_); rintro e w1 ⟨rfl, rfl⟩)
      go_ret
      exact ⟨rfl, RGot.same H.out⟩
    | true =>
      rw [hn] at HN
      have HU : Hid (∀ q, Calls Try.prog 35 #[dp d] (w.drewN q) fun e w' => e = .returned (.int .i64 (l.used : Int)) ∧ w' = w.drewN q) := Lib.hid fun q => rused_any (h.drewN q) (by omega) ho.most
      have hro0 := ho.room.1
      have hro1 := ho.room.2
      have hmo := ho.most
      rw [size_data]
      generalize hus : l.used = us at *
      generalize hrm : l.room = rm at *
      have hwr : IntKind.i64.wrap ((us : Int) + (t.size : Int)) = (us : Int) + (t.size : Int) := by simp [IntKind.wrap, IntKind.bits, IntKind.signed]; omega
      unfold dp at HU
      by_cases hbig : rm - (us : Int) < (t.size : Int)
      · have hbig' : rm < (us : Int) + (t.size : Int) := by omega
        simp only [hbig, if_true, Bool.false_eq_true, if_false]
        have hd1 : decide (rm < (us : Int) + (t.size : Int)) = true := decide_eq_true hbig'
        clear h hd hn hbig
        unfold dp
        go_enter Try.func21, Try.ntmps21
        go_wp2_with (go_at_call 39; (with_reducible refine HN.out.mono ?_); rintro e w1 ⟨rfl, rfl⟩)
        go_quiet ((go_at_call 35; exact Calls.quiet_of_same (HU.out _)))
        go_wp2
        go_ret
        exact ⟨rfl, RGot.sameN H.out _⟩
      · have hbig' : (us : Int) + (t.size : Int) ≤ rm := by omega
        simp only [hbig, if_true, Bool.false_eq_true, if_false]
        have hd1 : decide (rm < (us : Int) + (t.size : Int)) = false := decide_eq_false (by omega)
        have HS : Hid (∀ q, Calls Try.prog 40 #[dp d] (w.drewN q) fun e w' => e = .returned (.int .i64 (if l.go then 0 else 3)) ∧ RAt w' d l.step v ∧ Ch (fun k => k = d) (w.drewN q) w') := Lib.hid fun q => rstep_any (h.drewN q) ho
        cases hg : l.go with
        | false =>
          rw [hg] at HS
          simp only [Bool.false_eq_true, if_false] at HS
          unfold dp at HS
          clear h hd hn hbig hg
          unfold dp
          go_enter Try.func21, Try.ntmps21
          go_wp2_with (go_at_call 39; (with_reducible refine HN.out.mono ?_); rintro e w1 ⟨rfl, rfl⟩)
          go_quiet ((go_at_call 35; exact Calls.quiet_of_same (HU.out _)))
          go_wp2_with (go_at_call 40; (with_reducible refine (HS.out _).mono ?_); rintro e w2 ⟨rfl, h2, hc2⟩)
          go_ret
          exact ⟨rfl, v, h2, fun _ hj => .inl hj, (Ch.drewN _ _ nq).tr hc2⟩
        | true =>
          rw [hg] at HS
          simp only [if_true] at HS
          have hlen' : l.step.fs.length ≤ 1000000 := by rw [step_fs']; omega
          have hasc : Asc l.step.fs := by rw [step_fs']; exact ho.asc
          have HP := Lib.hid (fun W v1 (h1 : RAt W d l.step v1) (t1 : ByteArray) (k1 : Nat) => rput_any h1 hasc hlen' n t1 k1)
          rw [← step_fs' l]
          have hD := lt_of_heap h.blk
          obtain ⟨a, cap, hvs, -, hab⟩ := h.rd
          clear hab
          have how : ∀ j, v.ownBlock = some j → j < w.heap.size := fun j hj => (h.own.own j hj).2
          rw [← step_fs' l] at hvs
          subst hvs
          have HOW := Lib.hid how
          clear how
          have hfin : ∀ (w2 w4 : World) (t1 : ByteArray) (k1 : Nat), (l.old n.data.toList).1 ++ t.data.toList = t1.data.toList → (l.old n.data.toList).2 = k1 → w.heap.size ≤ w2.heap.size → Ch (fun k => k = d) w w2 →
              (∃ v', RAt w4 d { l.step with fs := put n.data.toList (t1.data.toList, k1) l.step.fs } v' ∧ (∀ j, v'.ownBlock = some j → w2.heap.size ≤ j) ∧ Ch (fun j => j = d) w2 w4) →
              RGot w w4 d (.slice a l.step.fs.length cap) { l.step with fs := put n.data.toList ((l.old n.data.toList).1 ++ t.data.toList, (l.old n.data.toList).2) l.step.fs } := by
            rintro w2 w4 t1 k1 e1 e2 hz hc ⟨v', h1, h2, h3⟩
            rw [e1, e2]
            exact ⟨v', h1, fun j hj => .inr (Nat.le_trans hz (h2 j hj)), hc.tr h3⟩
          have HFI := Lib.hid hfin
          clear hfin
          cases hl : look n.data.toList l.step.fs with
          | none =>
            have HO : Hid (l.old n.data.toList = ([], 0)) := Lib.hid (by unfold Lg.old; rw [← step_fs' l, hl]; rfl)
            have HAT := Lib.hid (fun W v1 (h1 : RAt W d l.step v1) => rat_no hl hlen' h1)
            have hcat : binOp .add 9 (.string ⟨#[]⟩) (.string t) = pure (.string t) := by
              have := cat [] t.data.toList (by rw [size_data]; simp; omega)
              rwa [List.nil_append, txt_data] at this
            have HQ : Hid (∀ W v1, RAt W d l.step v1 → Calls Try.prog 42 #[dp d, .agg #[.string n, .string t, .int .i64 0]] W fun e w' => e = .returned (.tuple #[]) ∧ ∃ v', RAt w' d { l.step with fs := put n.data.toList (t.data.toList, 0) l.step.fs } v' ∧ (∀ j, v'.ownBlock = some j → W.heap.size ≤ j) ∧ Ch (fun j => j = d) W w') := Lib.hid fun W v1 h1 => HP.out W v1 h1 t 0
            clear HP
            unfold dp at HS HQ HAT
            clear h hd hn hbig hg hl ho hasc
            unfold dp
            go_enter Try.func21, Try.ntmps21
            go_wp2_with (go_at_call 39; (with_reducible refine HN.out.mono ?_); rintro e w1 ⟨rfl, rfl⟩)
            go_quiet ((go_at_call 35; exact Calls.quiet_of_same (HU.out _)))
            go_wp2_with (first
              | (go_at_call 40; (with_reducible refine (HS.out _).mono ?_); rintro e w2 ⟨rfl, h2, hc2⟩; have H2 := Lib.hid h2; clear h2)
              | (go_at_call 41; (with_reducible refine (HAT.out _ _ (H2.out.alloc _)).mono ?_); rintro e w3 ⟨rfl, rfl⟩)
              | (go_at_call 42; (with_reducible refine (HQ.out _ _ (H2.out.alloc _)).mono ?_); rintro e w4 ⟨rfl, hfi⟩))
            go_ret
            have hc3 : Ch (fun k => k = d) w1 (w2.alloc (.cells #[.string n, .string t, .int .i64 0] 74)) := ((Ch.drewN _ w1 nq).tr hc2).tr (Ch.alloc _ _ _)
            exact ⟨rfl, HFI.out _ w4 t 0 (by rw [HO.out]; rfl) (by rw [HO.out]) hc3.size hc3 hfi⟩
          | some x =>
            have HO : Hid (l.old n.data.toList = x) := Lib.hid (by unfold Lg.old; rw [← step_fs' l, hl]; rfl)
            obtain ⟨k, hk, hx, hat⟩ := rat_yes (d := d) hl hlen'
            have HAT := Lib.hid hat
            clear hat
            obtain ⟨b, off, hab, -, -, -⟩ := (show RAt w d { l with fs := l.step.fs } (.slice a l.step.fs.length cap) from ⟨by rw [step_fs'] at *; exact h.blk, by rw [step_fs'] at *; exact h.own⟩).rdw k hk
            subst hab
            have HFX := Lib.hid (fun W (h1 : RAt W d l.step (.slice (some ⟨b, off, none⟩) l.step.fs.length cap)) => h1.file hk hx)
            have hk0 : (0 : Int) ≤ (k : Int) := by omega
            have hkI : (k : Int) < (l.step.fs.length : Int) := by omega
            have hxl : x.1.length ≤ 1073741824 := by
              have h1 := usedN_take l.step.fs (k + 1)
              rw [take_at hk, usedN_snoc, hx] at h1
              have h2 : usedN l.step.fs = us := by rw [step_fs', ← hus]; rfl
              simp only at h1
              omega
            have hcat : binOp .add 9 (.string (txt x.1)) (.string t) = pure (.string (txt (x.1 ++ t.data.toList))) := by
              have := cat x.1 t.data.toList (by rw [size_data]; omega)
              rwa [txt_data] at this
            have HQ : Hid (∀ W v1, RAt W d l.step v1 → Calls Try.prog 42 #[dp d, .agg #[.string n, .string (txt (x.1 ++ t.data.toList)), .int .i64 (x.2 : Int)]] W fun e w' => e = .returned (.tuple #[]) ∧ ∃ v', RAt w' d { l.step with fs := put n.data.toList ((txt (x.1 ++ t.data.toList)).data.toList, x.2) l.step.fs } v' ∧ (∀ j, v'.ownBlock = some j → W.heap.size ≤ j) ∧ Ch (fun j => j = d) W w') := Lib.hid fun W v1 h1 => HP.out W v1 h1 (txt (x.1 ++ t.data.toList)) x.2
            have HT3 : Hid (x.1 ++ t.data.toList = (txt (x.1 ++ t.data.toList)).data.toList) := Lib.hid rfl
            clear HP
            unfold dp at HS HQ HAT
            clear h hd hn hbig hg hl ho hasc hx
            generalize txt (x.1 ++ t.data.toList) = t2 at *
            unfold dp
            go_enter Try.func21, Try.ntmps21
            go_wp2_with (go_at_call 39; (with_reducible refine HN.out.mono ?_); rintro e w1 ⟨rfl, rfl⟩)
            go_quiet ((go_at_call 35; exact Calls.quiet_of_same (HU.out _)))
            go_wp2_with (first
              | (go_at_call 40; (with_reducible refine (HS.out _).mono ?_); rintro e w2 ⟨rfl, h2, hc2⟩; have H2 := Lib.hid h2; clear h2)
              | (go_at_call 41; (with_reducible refine (HAT.out _ _ (H2.out.alloc _)).mono ?_); rintro e w3 ⟨rfl, rfl⟩))
            have HB := Lib.hid (heap_alloc_new w2 (.cells #[.string n, .string ⟨#[]⟩, .int .i64 0] 74))
            have HA2 := Lib.hid (H2.out.alloc (.cells #[.string n, .string ⟨#[]⟩, .int .i64 0] 74))
            have HC2 : Hid (Ch (fun k => k = d) w1 (w2.alloc (.cells #[.string n, .string ⟨#[]⟩, .int .i64 0] 74))) := Lib.hid (((Ch.drewN _ w1 nq).tr hc2).tr (Ch.alloc _ _ _))
            have hz2 := hc2.size
            have hz3 : w1.heap.size ≤ w2.heap.size := hz2
            clear hc2 H2 hz2
            generalize w2.alloc (.cells #[.string n, .string ⟨#[]⟩, .int .i64 0] 74) = W at *
            generalize w2.heap.size = bx at *
            have c0 := HA2.out.c0
            have hB := HB.out
            have e0 : W.cell? ⟨bx, 0, none⟩ = some (.string n) := cell_of_row _ _ _ _ _ _ hB
            have e1 : W.cell? ⟨bx, 1, none⟩ = some (.string ⟨#[]⟩) := cell_of_row _ _ _ _ _ _ hB
            have e2 : W.cell? ⟨bx, 2, none⟩ = some (.int .i64 0) := cell_of_row _ _ _ _ _ _ hB
            have g0 : W.frozen? ⟨bx, 0, none⟩ = false := frozen_of_row _ _ _ _ _ hB
            have g1 : W.frozen? ⟨bx, 1, none⟩ = false := frozen_of_row _ _ _ _ _ hB
            have g2 : W.frozen? ⟨bx, 2, none⟩ = false := frozen_of_row _ _ _ _ _ hB
            obtain ⟨k0, k1, k2⟩ := HFX.out W HA2.out
            clear hB
            go_region_with (go_at_call 41; (with_reducible refine (HAT.out _ _ (HA2.out.drew)).mono ?_); rintro e w3 ⟨rfl, rfl⟩)
            all_goals (
              have HW5 : Hid (RAt (box3 W bx (.string n) (.string (txt x.1)) (.int .i64 (x.2 : Int))) d l.step (.slice (some ⟨b, off, none⟩) l.step.fs.length cap)) := Lib.hid (HA2.out.keep (box3_ch W bx _ _ _) (by omega) fun j hj => by have := HOW.out j hj; omega)
              have HC5 : Hid (Ch (fun k => k = d) w1 (box3 W bx (.string n) (.string (txt x.1)) (.int .i64 (x.2 : Int)))) := Lib.hid (HC2.out.trans (box3_ch W bx _ _ _) fun j hj e => by omega)
              have hB5 := box3_row HB.out (.string n) (.string (txt x.1)) (.int .i64 (x.2 : Int))
              change Exit.then _ _ _ _ (box3 W bx (.string n) (.string (txt x.1)) (.int .i64 (x.2 : Int)))
              generalize box3 W bx (.string n) (.string (txt x.1)) (.int .i64 (x.2 : Int)) = W5 at *
              clear e0 e1 e2 g0 g1 g2 k0 k1 k2 c0
              have e0 : W5.cell? ⟨bx, 0, none⟩ = some (.string n) := cell_of_row _ _ _ _ _ _ hB5
              have e1 : W5.cell? ⟨bx, 1, none⟩ = some (.string (txt x.1)) := cell_of_row _ _ _ _ _ _ hB5
              have e2 : W5.cell? ⟨bx, 2, none⟩ = some (.int .i64 (x.2 : Int)) := cell_of_row _ _ _ _ _ _ hB5
              have g1 : W5.frozen? ⟨bx, 1, none⟩ = false := frozen_of_row _ _ _ _ _ hB5
              have HB5 := Lib.hid hB5
              clear hB5
              go_wp2_with (go_at_call 42; (with_reducible refine (HQ.out _ _ (HW5.out.keep (Ch.set1 _ bx 1 _) (by omega) fun j hj => by have := HOW.out j hj; omega)).mono ?_); rintro e w4 ⟨rfl, hfi⟩)
              go_ret
              have hc6 := HC5.out.trans (Ch.set1 W5 bx 1 (.string t2)) fun j hj e => by omega
              exact ⟨rfl, HFI.out _ w4 t2 x.2 (by rw [HO.out]; exact HT3.out) (by rw [HO.out]) hc6.size hc6 hfi⟩)
end Go.Proofs.Ytceejjocimgbmaa
