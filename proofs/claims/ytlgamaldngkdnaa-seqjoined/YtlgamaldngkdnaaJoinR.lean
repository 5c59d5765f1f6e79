/- Walk of the document's Joined. -/
import Derived.Test.YtlgamaldngkdnaaMeet
import Derived.BigQuiet
import Derived.Deep.RegionHeld3
namespace Go.Proofs.Ytlgamaldngkdnaa
open Go Go.RowKit
attribute [-go_sem] Builtin.append_

theorem OwB.keepN {w w' : World} {base : Nat} {e : TypeId} {v : Value} {bs : List Bt} (h : OwB w base e v bs) (hc : Ch (fun _ => False) w w') : OwB w' base e v bs := h.keep hc fun _ _ _ => id
section
variable {w : World} {o : Oper} {a : Act} {Q : Exit → Act → World → Prop}
/-- append of one to a slice that the call made itself. -/
theorem wp_bt {K : Act → World → Prop} (s x : Operand) (ho : o.op = .call { callee := .builtin .append, args := #[s, x], argTypes := #[49, 49] })
    (base : Nat) (v : Value) (js : List Bt) (hs : a.eval s = v) (hown : OwB w base 53 v js) (g : Nat) (y : Bt)
    (hx : a.eval x = .slice (some ⟨g, 0, none⟩) 1 1) (hrow : w.heap[g]? = some (.cells #[.string y.k, .int .i64 y.l, .int .i64 y.r, .bool y.hl, .bool y.hr] 53 (0, 0))) (hlen : js.length + 1 ≤ 100000) (hbase : base ≤ w.heap.size)
    (h : ∀ v' w', OwB w' base 53 v' (js ++ [y]) → Ch (fun j => v.ownBlock = some j) w w' → K (a.put o.dst v') w') : o.wp Try.prog a w K Q := by
  obtain ⟨i0, hi, hz0, hz1, hz2⟩ := info_parts Try.info53
  refine wp_append_own _ s x 49 ho base 53 i0 _ 5 40 Try.underlying49 hi hz0 hz1 hz2 rfl (by decide) v js.length (cellsB js) hs hown ⟨g, 0, none⟩ 1 1 y.cells hx (by simp [Bt.cells]) ?_ ?_ (by unfold maxLen; omega) (by omega) hbase ?_
  · intro j z hj
    have e : (⟨g, 0, none⟩ : Addr).add j = ⟨g, j, none⟩ := by unfold Addr.add; split <;> simp_all
    rw [e, cell_of_row _ _ _ _ _ _ hrow]
    simpa [Bt.cells] using hj
  · intro z hz
    simp only [Bt.cells, List.mem_cons, List.not_mem_nil, or_false] at hz
    rcases hz with rfl | rfl | rfl | rfl | rfl <;> rfl
  · intro v' w' h1 h2 _
    refine h v' w' ?_ (Ch.of_grown h2 fun k hk => hk)
    unfold OwB
    rw [cellsB_append, List.length_append, show cellsB [y] = y.cells by simp [cellsB]]
    exact h1
theorem step_bt {ops : Array Oper} {K : Act → World → Prop} {E : Prop} (hgd : o.guard = none) (s x : Operand) (ho : o.op = .call { callee := .builtin .append, args := #[s, x], argTypes := #[49, 49] })
    (base : Nat) (v : Value) (js : List Bt) (hs : a.eval s = v) (hown : OwB w base 53 v js) (g : Nat) (y : Bt)
    (hx : a.eval x = .slice (some ⟨g, 0, none⟩) 1 1) (hrow : w.heap[g]? = some (.cells #[.string y.k, .int .i64 y.l, .int .i64 y.r, .bool y.hl, .bool y.hr] 53 (0, 0))) (hlen : js.length + 1 ≤ 100000) (hbase : base ≤ w.heap.size)
    (h : ∀ v' w', OwB w' base 53 v' (js ++ [y]) → Ch (fun j => v.ownBlock = some j) w w' → K (a.put o.dst v') w') :
    if Region.wanted o (yielded ops a.tmps) = true then Oper.wp Try.prog o a w K Q else E := by
  have hw : Region.wanted o (yielded ops a.tmps) = true := by simp [Region.wanted, hgd]
  rw [if_pos hw]
  exact wp_bt s x ho base v js hs hown g y hx hrow hlen hbase h
end
theorem drop_pr (xs : List Pr) (i : Nat) (h : i < xs.length) : xs.drop i = (ky xs i, vl xs i) :: xs.drop (i + 1) := by
  rw [List.drop_eq_getElem_cons h]
  unfold ky vl
  rw [List.getD_eq_getElem?_getD, List.getElem?_eq_getElem h]
  rfl
theorem join_more {xs zs ss ts : List Pr} {js : List Bt} {x : Bt} (h : js ++ joinL ss ts = joinL xs zs) {ss' ts' : List Pr} (he : joinL ss ts = x :: joinL ss' ts') : (js ++ [x]) ++ joinL ss' ts' = joinL xs zs := by
  rw [← h, he, List.append_assoc]; rfl
theorem brow (W : World) (i : Nat) (hi : W.heap.size = i) (y : Bt) : (W.alloc (.cells #[.string y.k, .int .i64 y.l, .int .i64 y.r, .bool y.hl, .bool y.hr] 53)).heap[i]? = some (.cells #[.string y.k, .int .i64 y.l, .int .i64 y.r, .bool y.hl, .bool y.hr] 53 (0, 0)) := by
  subst hi
  exact World.alloc_heap_new W _
/-- What a round of Joined leaves. -/
structure JrI (w wr : World) (xs zs : List Pr) (ii kk : Nat) (v : Value) (js : List Bt) : Prop where
  own : OwB wr w.heap.size 53 v js
  eq : js ++ joinL (xs.drop ii) (zs.drop kk) = joinL xs zs
  len : js.length ≤ ii + kk
  ch : Ch (fun _ => False) w wr
theorem JrI.app {w wr W w2 : World} {xs zs : List Pr} {ii kk i2 k2 : Nat} {v v2 : Value} {js : List Bt} {y : Bt} (h : JrI w wr xs zs ii kk v js) (hW : Ch (fun _ => False) wr W) (ho : OwB w2 w.heap.size 53 v2 (js ++ [y])) (hc : Ch (fun j => v.ownBlock = some j) W w2) (he : (js ++ [y]) ++ joinL (xs.drop i2) (zs.drop k2) = joinL xs zs) (hl : ii + kk + 1 ≤ i2 + k2) : JrI w w2 xs zs i2 k2 v2 (js ++ [y]) := by
  refine ⟨ho, he, ?_, (h.ch.tr hW).trans hc fun j hj e => ?_⟩
  · have := h.len
    rw [List.length_append]
    simp only [List.length_cons, List.length_nil]
    omega
  · have := (h.own.own j e).1
    omega
theorem ch_dw (w : World) (q : Nat) (o : Obj) : Ch (fun _ => False) w ((w.drewN q).drew.alloc o) := ((Ch.drewN _ w q).tr (Ch.drew _ _)).tr (Ch.alloc _ _ _)

set_option maxRecDepth 100000 in
set_option maxHeartbeats 8000000 in
theorem rjoined_any (a b : Option Addr) (ca cb : Nat) (xs zs : List Pr) (hxl : xs.length ≤ 300) (hzl : zs.length ≤ 300) (w : World) (hx : Rd w a xs) (hz : Rd w b zs) :
    Calls Try.prog 28 #[.slice a xs.length ca, .slice b zs.length cb] w fun e w' => ∃ v, e = .returned v ∧ OwB w' w.heap.size 53 v (joinL xs zs) ∧ Ch (fun _ => False) w w' := by
  have HR := Lib.hid (And.intro hx hz)
  clear hx hz
  have hxI : (xs.length : Int) ≤ 300 := by omega
  have hzI : (zs.length : Int) ≤ 300 := by omega
  go_enter Try.func28, Try.ntmps28
  go_wp2
  go_loopw [5, 6, 7] (fun v i k wr => ∃ (ii kk : Nat) (js : List Bt), i = .int .i64 (ii : Int) ∧ k = .int .i64 (kk : Int) ∧ ii ≤ xs.length ∧ kk ≤ zs.length ∧ Hid (JrI w wr xs zs ii kk v js)) (fun _ i k _ => xs.length + zs.length - (intOf i).toNat - (intOf k).toNat)
  case atStart => exact ⟨0, 0, [], rfl, rfl, Nat.zero_le _, Nat.zero_le _, Lib.hid ⟨OwB.nil _ _ _, rfl, Nat.zero_le _, Ch.refl _ _⟩⟩
  case round =>
    obtain ⟨ii, kk, js, rfl, rfl, hi, hk, HI⟩ := hrel
    obtain ⟨oa, oc, hv, -, -⟩ := HI.out.own.rd
    subst hv
    have hsz := HI.out.ch.size
    have hjl : js.length + 1 ≤ 100000 := by have := HI.out.len; omega
    have hi0 : (0 : Int) ≤ (ii : Int) := by omega
    have hk0 : (0 : Int) ≤ (kk : Int) := by omega
    by_cases hlt : ii < xs.length
    · have hlt' : (ii : Int) < (xs.length : Int) := by omega
      have hlt2 : ¬ (xs.length : Int) ≤ (ii : Int) := by omega
      obtain ⟨b0, o0, rfl, x0, x1⟩ := HR.out.1.keep HI.out.ch (fun _ _ => id) ii hlt
      have hb0 : b0 < w.heap.size := by
        obtain ⟨b', o', e, h0, -⟩ := HR.out.1 ii hlt
        cases e
        exact World.block_lt_of_cell? _ _ h0
      have HDx := Lib.hid (drop_pr xs ii hlt)
      generalize ky xs ii = xk at *
      generalize vl xs ii = xv at *
      have HAx := Lib.hid (fun W o (hW : Ch (fun _ => False) wr W) => And.intro ((hW.tr (Ch.alloc _ _ o)).cell x0 id) ((hW.tr (Ch.alloc _ _ o)).cell x1 id))
      have HOx := Lib.hid (fun W W2 (hW : Ch (fun _ => False) wr W) (hc : Ch (fun j => (Value.slice oa js.length oc).ownBlock = some j) W W2) => (show W2.cell? ⟨b0, o0 + ii * 2, none⟩ = some (.string xk) ∧ W2.cell? ⟨b0, o0 + ii * 2 + 1, none⟩ = some (.int .i64 xv) from
        ⟨hc.cell (hW.cell x0 id) (fun e => by have := (HI.out.own.own _ e).1; simp only at this; omega), hc.cell (hW.cell x1 id) (fun e => by have := (HI.out.own.own _ e).1; simp only at this; omega)⟩))
      by_cases hlk : kk < zs.length
      · have hlk' : (kk : Int) < (zs.length : Int) := by omega
        have hdk : decide ((zs.length : Int) ≤ (kk : Int)) = false := decide_eq_false (by omega)
        have hdi : decide ((ii : Int) < (xs.length : Int)) = true := decide_eq_true hlt'
        have hdj : decide ((xs.length : Int) ≤ (ii : Int)) = false := decide_eq_false (by omega)
        obtain ⟨b1, o1, rfl, y0, y1⟩ := HR.out.2.keep HI.out.ch (fun _ _ => id) kk hlk
        have hb1 : b1 < w.heap.size := by
          obtain ⟨b', o', e, h0, -⟩ := HR.out.2 kk hlk
          cases e
          exact World.block_lt_of_cell? _ _ h0
        have HDy := Lib.hid (drop_pr zs kk hlk)
        generalize ky zs kk = yk at *
        generalize vl zs kk = yv at *
        have HAy := Lib.hid (fun W o (hW : Ch (fun _ => False) wr W) => And.intro ((hW.tr (Ch.alloc _ _ o)).cell y0 id) ((hW.tr (Ch.alloc _ _ o)).cell y1 id))
        have HOy := Lib.hid (fun W W2 (hW : Ch (fun _ => False) wr W) (hc : Ch (fun j => (Value.slice oa js.length oc).ownBlock = some j) W W2) => (show W2.cell? ⟨b1, o1 + kk * 2, none⟩ = some (.string yk) ∧ W2.cell? ⟨b1, o1 + kk * 2 + 1, none⟩ = some (.int .i64 yv) from
          ⟨hc.cell (hW.cell y0 id) (fun e => by have := (HI.out.own.own _ e).1; simp only at this; omega), hc.cell (hW.cell y1 id) (fun e => by have := (HI.out.own.own _ e).1; simp only at this; omega)⟩))
        cases hxy : lt xk yk with
        | true =>
          have hxy' : Op.bytesLess xk.toList yk.toList = true := hxy
          have HE : Hid ((js ++ [leftB (xk, xv)]) ++ joinL (xs.drop (ii + 1)) (zs.drop kk) = joinL xs zs) := Lib.hid (join_more (ss' := xs.drop (ii + 1)) (ts' := zs.drop kk) HI.out.eq (by rw [HDx.out, HDy.out, joinL_l _ _ (lt_asymm hxy) hxy]))
          go_wp2
          go_quiet (fail)
          have HQ := Lib.hid (fun q => Ch.drewN (fun _ => False) wr q)
          go_wp2
          go_region_held3 (fun V => V.cell? ⟨b0, o0 + ii * 2, none⟩ = some (.string xk) ∧ V.cell? ⟨b0, o0 + ii * 2 + 1, none⟩ = some (.int .i64 xv))
            (first | exact ⟨x0, x1⟩ | exact HAx.out _ _ (HQ.out _) | exact q2)
            (first | (refine step_bt (by rfl) (.tmp 65) (.tmp 77) (by rfl) w.heap.size (.slice oa js.length oc) js (by rfl) (HI.out.own.keepN ((HQ.out _).tr (Ch.alloc _ _ _))) wr.heap.size (leftB (xk, xv)) (by rfl) (brow _ _ (by rfl) (leftB (xk, xv))) hjl (by simp; omega) ?_; intro v2 w2 ho2 hc2; have q2 := HOx.out _ _ ((HQ.out _).tr (Ch.alloc _ _ _)) hc2; have HI2 := Lib.hid (HI.out.app (i2 := ii + 1) (k2 := kk) ((HQ.out _).tr (Ch.alloc _ _ _)) ho2 hc2 HE.out (by omega))))
          all_goals (
            clear q2 ho2 hc2
            go_wp2
            go_roundw
            case rel => exact ⟨ii + 1, kk, _, by go_num, rfl, by omega, hk, HI2⟩
            case measure => simp [intOf]; omega)
        | false =>
          have hxy' : Op.bytesLess xk.toList yk.toList = false := hxy
          cases hyx : lt yk xk with
          | true =>
            have hyx' : Op.bytesLess yk.toList xk.toList = true := hyx
            have HE : Hid ((js ++ [rightB (yk, yv)]) ++ joinL (xs.drop ii) (zs.drop (kk + 1)) = joinL xs zs) := Lib.hid (join_more (ss' := xs.drop ii) (ts' := zs.drop (kk + 1)) HI.out.eq (by rw [HDx.out, HDy.out, joinL_r _ _ hyx]))
            go_wp2
            go_quiet (fail)
            go_wp2
            go_quiet (fail)
            have HQ := Lib.hid (fun q => Ch.drewN (fun _ => False) wr q)
            go_wp2
            go_region_held3 (fun V => V.cell? ⟨b1, o1 + kk * 2, none⟩ = some (.string yk) ∧ V.cell? ⟨b1, o1 + kk * 2 + 1, none⟩ = some (.int .i64 yv))
              (first | exact ⟨y0, y1⟩ | exact HAy.out _ _ (HQ.out _) | exact q2)
              (first | (refine step_bt (by rfl) (.tmp 99) (.tmp 111) (by rfl) w.heap.size (.slice oa js.length oc) js (by rfl) (HI.out.own.keepN ((HQ.out _).tr (Ch.alloc _ _ _))) wr.heap.size (rightB (yk, yv)) (by rfl) (brow _ _ (by rfl) (rightB (yk, yv))) hjl (by simp; omega) ?_; intro v2 w2 ho2 hc2; have q2 := HOy.out _ _ ((HQ.out _).tr (Ch.alloc _ _ _)) hc2; have HI2 := Lib.hid (HI.out.app (i2 := ii) (k2 := kk + 1) ((HQ.out _).tr (Ch.alloc _ _ _)) ho2 hc2 HE.out (by omega))))
            all_goals (
              clear q2 ho2 hc2
              go_wp2
              go_roundw
              case rel => exact ⟨ii, kk + 1, _, rfl, by go_num, hi, by omega, HI2⟩
              case measure => simp [intOf]; omega)
          | false =>
            have hyx' : Op.bytesLess yk.toList xk.toList = false := hyx
            have HE : Hid ((js ++ [bothB (xk, xv) (yk, yv)]) ++ joinL (xs.drop (ii + 1)) (zs.drop (kk + 1)) = joinL xs zs) := Lib.hid (join_more (ss' := xs.drop (ii + 1)) (ts' := zs.drop (kk + 1)) HI.out.eq (by rw [HDx.out, HDy.out, joinL_b _ _ hyx hxy]))
            go_wp2
            go_quiet (fail)
            go_wp2
            go_quiet (fail)
            have HQ := Lib.hid (fun q => Ch.drewN (fun _ => False) wr q)
            go_wp2
            go_region_held3 (fun V => (V.cell? ⟨b0, o0 + ii * 2, none⟩ = some (.string xk) ∧ V.cell? ⟨b0, o0 + ii * 2 + 1, none⟩ = some (.int .i64 xv)) ∧ V.cell? ⟨b1, o1 + kk * 2, none⟩ = some (.string yk) ∧ V.cell? ⟨b1, o1 + kk * 2 + 1, none⟩ = some (.int .i64 yv))
              (first | exact ⟨⟨x0, x1⟩, y0, y1⟩ | exact ⟨HAx.out _ _ (HQ.out _), HAy.out _ _ (HQ.out _)⟩ | exact ⟨q2, q3⟩)
              (first | (refine step_bt (by rfl) (.tmp 18) (.tmp 35) (by rfl) w.heap.size (.slice oa js.length oc) js (by rfl) (HI.out.own.keepN ((HQ.out _).tr (Ch.alloc _ _ _))) wr.heap.size (bothB (xk, xv) (yk, yv)) (by rfl) (brow _ _ (by rfl) (bothB (xk, xv) (yk, yv))) hjl (by simp; omega) ?_; intro v2 w2 ho2 hc2; have q2 := HOx.out _ _ ((HQ.out _).tr (Ch.alloc _ _ _)) hc2; have q3 := HOy.out _ _ ((HQ.out _).tr (Ch.alloc _ _ _)) hc2; have HI2 := Lib.hid (HI.out.app (i2 := ii + 1) (k2 := kk + 1) ((HQ.out _).tr (Ch.alloc _ _ _)) ho2 hc2 HE.out (by omega))))
            all_goals (
              clear q2 q3 ho2 hc2
              go_wp2
              go_roundw
              case rel => exact ⟨ii + 1, kk + 1, _, by go_num, by go_num, by omega, by omega, HI2⟩
              case measure => simp [intOf]; omega)
      · have hlk' : (zs.length : Int) ≤ (kk : Int) := by omega
        have hd1 : decide ((zs.length : Int) ≤ (kk : Int)) = true := decide_eq_true hlk'
        have HE : Hid ((js ++ [leftB (xk, xv)]) ++ joinL (xs.drop (ii + 1)) (zs.drop kk) = joinL xs zs) := Lib.hid (join_more (ss' := xs.drop (ii + 1)) (ts' := zs.drop kk) HI.out.eq (by rw [HDx.out, List.drop_eq_nil_of_le (Nat.le_of_not_lt hlk), joinL_left]))
        go_wp2
        go_quiet (fail)
        have HQ := Lib.hid (fun q => Ch.drewN (fun _ => False) wr q)
        go_wp2
        go_region_held3 (fun V => V.cell? ⟨b0, o0 + ii * 2, none⟩ = some (.string xk) ∧ V.cell? ⟨b0, o0 + ii * 2 + 1, none⟩ = some (.int .i64 xv))
          (first | exact ⟨x0, x1⟩ | exact HAx.out _ _ (HQ.out _) | exact q2)
          (first | (refine step_bt (by rfl) (.tmp 65) (.tmp 77) (by rfl) w.heap.size (.slice oa js.length oc) js (by rfl) (HI.out.own.keepN ((HQ.out _).tr (Ch.alloc _ _ _))) wr.heap.size (leftB (xk, xv)) (by rfl) (brow _ _ (by rfl) (leftB (xk, xv))) hjl (by simp; omega) ?_; intro v2 w2 ho2 hc2; have q2 := HOx.out _ _ ((HQ.out _).tr (Ch.alloc _ _ _)) hc2; have HI2 := Lib.hid (HI.out.app (i2 := ii + 1) (k2 := kk) ((HQ.out _).tr (Ch.alloc _ _ _)) ho2 hc2 HE.out (by omega))))
        all_goals (
          clear q2 ho2 hc2
          go_wp2
          go_roundw
          case rel => exact ⟨ii + 1, kk, _, by go_num, rfl, by omega, hk, HI2⟩
          case measure => simp [intOf]; omega)
    · have hlt' : (xs.length : Int) ≤ (ii : Int) := by omega
      have hnx : xs.drop ii = [] := List.drop_eq_nil_of_le (Nat.le_of_not_lt hlt)
      by_cases hlk : kk < zs.length
      · have hlk' : (kk : Int) < (zs.length : Int) := by omega
        have hdk : decide ((zs.length : Int) ≤ (kk : Int)) = false := decide_eq_false (by omega)
        have hdi : decide ((ii : Int) < (xs.length : Int)) = false := decide_eq_false (by omega)
        have hdj : decide ((xs.length : Int) ≤ (ii : Int)) = true := decide_eq_true hlt'
        have hdkN : decide (zs.length ≤ kk) = false := decide_eq_false (Nat.not_le_of_lt hlk)
        have hdiN : decide (ii < xs.length) = false := decide_eq_false hlt
        have hdjN : decide (xs.length ≤ ii) = true := decide_eq_true (Nat.le_of_not_lt hlt)
        obtain ⟨b1, o1, rfl, y0, y1⟩ := HR.out.2.keep HI.out.ch (fun _ _ => id) kk hlk
        have hb1 : b1 < w.heap.size := by
          obtain ⟨b', o', e, h0, -⟩ := HR.out.2 kk hlk
          cases e
          exact World.block_lt_of_cell? _ _ h0
        have HDy := Lib.hid (drop_pr zs kk hlk)
        generalize ky zs kk = yk at *
        generalize vl zs kk = yv at *
        have HAy := Lib.hid (fun W o (hW : Ch (fun _ => False) wr W) => And.intro ((hW.tr (Ch.alloc _ _ o)).cell y0 id) ((hW.tr (Ch.alloc _ _ o)).cell y1 id))
        have HOy := Lib.hid (fun W W2 (hW : Ch (fun _ => False) wr W) (hc : Ch (fun j => (Value.slice oa js.length oc).ownBlock = some j) W W2) => (show W2.cell? ⟨b1, o1 + kk * 2, none⟩ = some (.string yk) ∧ W2.cell? ⟨b1, o1 + kk * 2 + 1, none⟩ = some (.int .i64 yv) from
          ⟨hc.cell (hW.cell y0 id) (fun e => by have := (HI.out.own.own _ e).1; simp only at this; omega), hc.cell (hW.cell y1 id) (fun e => by have := (HI.out.own.own _ e).1; simp only at this; omega)⟩))
        have HE : Hid ((js ++ [rightB (yk, yv)]) ++ joinL (xs.drop ii) (zs.drop (kk + 1)) = joinL xs zs) := Lib.hid (join_more (ss' := xs.drop ii) (ts' := zs.drop (kk + 1)) HI.out.eq (by rw [hnx, HDy.out, joinL_nil, joinL_nil]; rfl))
        clear hnx
        go_wp2
        go_quiet (fail)
        go_wp2
        go_quiet (fail)
        have HQ := Lib.hid (fun q => Ch.drewN (fun _ => False) wr q)
        go_wp2
        go_region_held3 (fun V => V.cell? ⟨b1, o1 + kk * 2, none⟩ = some (.string yk) ∧ V.cell? ⟨b1, o1 + kk * 2 + 1, none⟩ = some (.int .i64 yv))
          (first | exact ⟨y0, y1⟩ | exact HAy.out _ _ (HQ.out _) | exact q2)
          (first | (refine step_bt (by rfl) (.tmp 99) (.tmp 111) (by rfl) w.heap.size (.slice oa js.length oc) js (by rfl) (HI.out.own.keepN ((HQ.out _).tr (Ch.alloc _ _ _))) wr.heap.size (rightB (yk, yv)) (by rfl) (brow _ _ (by rfl) (rightB (yk, yv))) hjl (by simp; omega) ?_; intro v2 w2 ho2 hc2; have q2 := HOy.out _ _ ((HQ.out _).tr (Ch.alloc _ _ _)) hc2; have HI2 := Lib.hid (HI.out.app (i2 := ii) (k2 := kk + 1) ((HQ.out _).tr (Ch.alloc _ _ _)) ho2 hc2 HE.out (by omega))))
        all_goals (
          clear q2 ho2 hc2
          go_wp2
          go_roundw
          case rel => exact ⟨ii, kk + 1, _, rfl, by go_num, hi, by omega, HI2⟩
          case measure => simp [intOf]; omega)
      · have hlk' : (zs.length : Int) ≤ (kk : Int) := by omega
        have HE : Hid (js = joinL xs zs) := Lib.hid (by
          have := HI.out.eq
          rw [hnx, List.drop_eq_nil_of_le (Nat.le_of_not_lt hlk), joinL_nil] at this
          simpa using this)
        clear hnx
        go_wp2
        go_ret
        exact ⟨_, rfl, by rw [← HE.out]; exact HI.out.own, HI.out.ch⟩
end Go.Proofs.Ytlgamaldngkdnaa
