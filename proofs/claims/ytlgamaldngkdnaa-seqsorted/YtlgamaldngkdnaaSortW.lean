/- Walks of SortStableFunc and of Sorted. -/
import Derived.Test.YtlgamaldngkdnaaSortS
import Derived.Test.YtlgamaldngkdnaaOf
namespace Go.Proofs.Ytlgamaldngkdnaa
open Go Go.RowKit

theorem ow_dat {w : World} {base : Nat} {v : Value} {xs : List Pr} (h : Ow w base 55 v xs) : (v = .slice none 0 0 ∧ xs = []) ∨ ∃ g cap, v = .slice (some ⟨g, 0, none⟩) xs.length cap ∧ base ≤ g ∧ g < w.heap.size ∧ Dat w g xs := by
  rcases h.2 with ⟨hv, h0⟩ | ⟨g, cap, cur, hv, hb, hg, hnc, hcm, hcs, ht⟩
  · exact .inl ⟨hv, List.length_eq_zero_iff.1 h0⟩
  · exact .inr ⟨g, cap, hv, hb, (Array.getElem?_eq_some_iff.1 hg).1, cur, hg, by omega, ht⟩
theorem Dat.rd {w : World} {g : Nat} {ds : List Pr} (h : Dat w g ds) : Rd w (some ⟨g, 0, none⟩) ds := fun i hi => by
  obtain ⟨c0, c1⟩ := h.cells hi
  exact ⟨g, 0, rfl, by rw [Nat.zero_add]; exact c0, by rw [Nat.zero_add]; exact c1⟩

set_option maxRecDepth 100000 in
set_option maxHeartbeats 1000000 in
theorem ins_nil (w : World) : Calls Try.prog 53 #[.slice none 0 0, .int .i64 0, .int .i64 0, .func (.func 39) #[] #[]] w fun e w' => e = .returned (.tuple #[]) ∧ Ch (fun _ => False) w w' := by
  go_enter Try.func53, Try.ntmps53
  go_wp2
  go_loopw [8] (fun i wr => i = .int .i64 1 ∧ Ch (fun _ => False) w wr) (fun _ _ => 0)
  case atStart => exact ⟨rfl, Ch.refl _ _⟩
  case round =>
    obtain ⟨rfl, hc⟩ := hrel
    go_wp2
    go_end0
    exact ⟨rfl, hc⟩
set_option maxRecDepth 100000 in
set_option maxHeartbeats 1000000 in
theorem stable_nil (w : World) : Calls Try.prog 50 #[.slice none 0 0, .int .i64 0, .func (.func 39) #[] #[]] w fun e w' => e = .returned (.tuple #[]) ∧ Ch (fun _ => False) w w' := by
  have HC := Lib.hid ins_nil
  go_enter Try.func50, Try.ntmps50
  go_wp2
  go_loopw [7, 8] (fun i j wr => i = .int .i64 0 ∧ j = .int .i64 20 ∧ Ch (fun _ => False) w wr) (fun _ _ _ => 0)
  case atStart => exact ⟨rfl, rfl, Ch.refl _ _⟩
  case round =>
    obtain ⟨rfl, rfl, hc⟩ := hrel
    go_wp2_with (go_at_call 53; (with_reducible refine (HC.out _).mono ?_); rintro e w2 ⟨rfl, hc2⟩)
    go_loopw [6, 7, 8, 9] (fun i _ _ _ wr => i = .int .i64 20 ∧ Ch (fun _ => False) w wr) (fun _ _ _ _ _ => 0)
    case atStart => exact ⟨rfl, hc.tr hc2⟩
    case round =>
      clear hc hc2
      obtain ⟨rfl, hc⟩ := hrel
      go_wp2
      go_end0
      exact ⟨rfl, hc⟩
set_option maxRecDepth 100000 in
set_option maxHeartbeats 1000000 in
theorem sort38_nil (w : World) : Calls Try.prog 38 #[.slice none 0 0, .func (.func 39) #[] #[]] w fun e w' => e = .returned (.tuple #[]) ∧ Ch (fun _ => False) w w' := by
  have HC := Lib.hid stable_nil
  go_enter Try.func38, Try.ntmps38
  go_wp2_with (go_at_call 50; (with_reducible refine (HC.out _).mono ?_); rintro e w2 ⟨rfl, hc2⟩)
  go_end0
  exact ⟨rfl, hc2⟩
set_option maxRecDepth 100000 in
set_option maxHeartbeats 1000000 in
theorem sort38_any (w : World) (g cap : Nat) (ds : List Pr) (h : Dat w g ds) (hl : ds.length ≤ 1000) :
    Calls Try.prog 38 #[.slice (some ⟨g, 0, none⟩) ds.length cap, .func (.func 39) #[] #[]] w fun e w' => e = .returned (.tuple #[]) ∧ ∃ es, Dat w' g es ∧ Sim ds es ∧ Srt (pr es) 0 ds.length ∧ Ch (fun k => k = g) w w' := by
  have HC := Lib.hid (stable_any w g cap ds h hl)
  clear h
  go_enter Try.func38, Try.ntmps38
  go_wp2_with (go_at_call 50; (with_reducible refine HC.out.mono ?_); rintro e w2 ⟨rfl, hc2⟩)
  go_end0
  exact ⟨rfl, hc2⟩

theorem Ow.low {w : World} {base base' : Nat} {e : TypeId} {v : Value} {xs : List Pr} (h : Ow w base e v xs) (hb : base' ≤ base) : Ow w base' e v xs :=
  ⟨h.1, h.2.elim .inl fun ⟨g, cap, cur, hv, hb2, hg, r⟩ => .inr ⟨g, cap, cur, hv, by omega, hg, r⟩⟩
/-- Below ii, and the next one is above it. -/
def Sel (es : List Pr) (ii : Nat) (x : Pr) : Prop := ∃ j, j < ii ∧ pr es j = x ∧ (j + 1 = es.length ∨ lt (ky es j) (ky es (j + 1)) = true)
def SelI (es ys : List Pr) (ii : Nat) : Prop := Rise ys ∧ (∀ x, x ∈ ys ↔ Sel es ii x) ∧ ys.length ≤ ii
theorem SelI.zero (es : List Pr) : SelI es [] 0 := ⟨fun i j _ hj => absurd hj (by simp), fun x => ⟨fun h => absurd h (by simp), fun ⟨j, hj, _⟩ => by omega⟩, Nat.le_refl _⟩
theorem SelI.skip {es ys : List Pr} {ii : Nat} (h : SelI es ys ii) (h1 : ii + 1 ≠ es.length) (h2 : lt (ky es ii) (ky es (ii + 1)) = false) : SelI es ys (ii + 1) := by
  refine ⟨h.1, fun x => (h.2.1 x).trans ⟨fun ⟨j, hj, r⟩ => ⟨j, by omega, r⟩, fun ⟨j, hj, e, r⟩ => ?_⟩, by have := h.2.2; omega⟩
  by_cases e2 : j = ii
  · subst e2
    rcases r with r | r
    · exact absurd r h1
    · rw [h2] at r; cases r
  · exact ⟨j, by omega, e, r⟩
theorem SelI.take {es ys : List Pr} {ii : Nat} (h : SelI es ys ii) (hs : Srt (pr es) 0 es.length) (hi : ii < es.length) (h1 : ii + 1 = es.length ∨ lt (ky es ii) (ky es (ii + 1)) = true) : SelI es (ys ++ [(ky es ii, vl es ii)]) (ii + 1) := by
  refine ⟨rise_snoc h.1 ?_, fun x => ?_, by rw [List.length_append, List.length_singleton]; have := h.2.2; omega⟩
  · by_cases h0 : ys.length = 0
    · exact .inl h0
    · refine .inr ?_
      have hl : ys.length - 1 < ys.length := by omega
      have hm : pr ys (ys.length - 1) ∈ ys := by rw [pr_get hl]; exact List.getElem_mem hl
      obtain ⟨j, hj, e, r⟩ := (h.2.1 _).1 hm
      have e2 : ky ys (ys.length - 1) = ky es j := congrArg Prod.fst e.symm
      rw [e2]
      rcases r with r | r
      · omega
      · by_cases e3 : j + 1 = ii
        · rw [← e3]; exact r
        · exact lt_of_lt_le r (hs (j + 1) ii (by omega) (by omega) hi)
  · constructor
    · intro hx
      rcases List.mem_append.1 hx with k | k
      · obtain ⟨j, hj, r⟩ := (h.2.1 x).1 k
        exact ⟨j, by omega, r⟩
      · obtain rfl := List.mem_singleton.1 k
        exact ⟨ii, by omega, rfl, h1⟩
    · rintro ⟨j, hj, e, r⟩
      by_cases e2 : j = ii
      · subst e2
        exact List.mem_append.2 (.inr (List.mem_singleton.2 e.symm))
      · exact List.mem_append.2 (.inl ((h.2.1 x).2 ⟨j, by omega, e, r⟩))
theorem SelI.sp {es ys : List Pr} {ii : Nat} (h : SelI es ys ii) (hs : Srt (pr es) 0 es.length) (hi : ii = es.length) : Sp es ys := by
  subst hi
  refine ⟨h.1, fun x => (h.2.1 x).trans ⟨fun ⟨j, hj, e, r⟩ => ⟨j, hj, e, fun k h1 h2 => ?_⟩, fun ⟨i, hi, e, r⟩ => ⟨i, hi, e, ?_⟩⟩⟩
  · rcases r with r | r
    · omega
    · have k1 : lt (ky es j) (ky es k) = true := by
        by_cases e3 : j + 1 = k
        · rw [← e3]; exact r
        · exact lt_of_lt_le r (hs (j + 1) k (by omega) (by omega) h2)
      rw [← e]
      exact (ne_of_lt' k1).symm
  · by_cases h1 : i + 1 = es.length
    · exact .inl h1
    · refine .inr ?_
      have k1 := hs i (i + 1) (by omega) (by omega) (by omega)
      have k2 := r (i + 1) (by omega) (by omega)
      rw [← e] at k2
      cases hx : lt (ky es i) (ky es (i + 1)) with
      | true => rfl
      | false => exact absurd (key_total k1 hx) k2

set_option maxRecDepth 100000 in
set_option maxHeartbeats 2000000 in
theorem sorted_any (base : Nat) (v : Value) (xs : List Pr) (hn : xs.length ≤ 1000) (w : World) (hv : Ow w base 55 v xs) :
    Calls Try.prog 22 #[v] w fun e w' => ∃ v' ys, e = .returned v' ∧ Ow w' w.heap.size 55 v' ys ∧ ys.length ≤ xs.length ∧ Sp xs ys ∧ Ch (fun _ => False) w w' := by
  have HC := Lib.hid (clone_any base v xs hn w hv)
  clear hv
  go_enter Try.func22, Try.ntmps22
  go_wp2_with (go_at_call 31; (with_reducible refine HC.out.mono ?_); rintro e w2 ⟨v2, rfl, ho2, hc2⟩)
  go_wp2_with fail
  have hz2 := hc2.size
  rcases ow_dat ho2 with ⟨rfl, rfl⟩ | ⟨g, cap, rfl, hbg, hgl, hD⟩
  · refine (sort38_nil w2).mono ?_
    rintro e w3 ⟨rfl, hc3⟩
    have HW := Lib.hid (hc2.tr hc3)
    clear hc2 hc3 ho2 HC
    go_wp2_with fail
    go_loopw [4, 5, 6, 13] (fun v _ _ i wr => v = .slice none 0 0 ∧ i = .int .i64 0 ∧ Hid (Ch (fun _ => False) w wr)) (fun _ _ _ _ _ => 0)
    case atStart => exact ⟨rfl, rfl, HW⟩
    case round =>
      clear HW
      obtain ⟨rfl, rfl, HI⟩ := hrel
      go_wp2
      go_ret
      exact ⟨_, [], rfl, Ow.nil _ _ _, Nat.le_refl _, ⟨fun i j _ hj => absurd hj (by simp), fun x => ⟨fun h => absurd h (by simp), fun ⟨i, hi, _⟩ => absurd hi (by simp)⟩⟩, HI.out⟩
  · refine (sort38_any w2 g cap xs hD hn).mono ?_
    rintro e w3 ⟨rfl, es, hD3, hS, hT, hc3⟩
    have hw3 : Ch (fun _ => False) w w3 := hc2.trans hc3 (fun j hj h => by omega)
    have hgl3 := hD3.lt
    have hes := hS.1
    rw [← hes] at hT ⊢
    have HT := Lib.hid (And.intro hS hT)
    have HW := Lib.hid hw3
    have HD3 := Lib.hid hD3
    have hs3 := hw3.size
    have hesI : (es.length : Int) ≤ 1000 := by omega
    have hes0 : (0 : Int) ≤ (es.length : Int) := by omega
    have hel : es.length ≤ 1000 := by omega
    have HXL := Lib.hid hes
    clear hc2 hc3 ho2 HC hw3 hD hD3 hS hT hes
    go_wp2_with fail
    go_loopw [4, 5, 6, 13] (fun v _ _ i wr => ∃ (ii : Nat) (ys : List Pr), i = .int .i64 (ii : Int) ∧ ii ≤ es.length ∧ Ow wr w3.heap.size 55 v ys ∧ Hid (SelI es ys ii ∧ Ch (fun _ => False) w3 wr)) (fun _ _ _ i _ => es.length - (intOf i).toNat)
    case atStart => exact ⟨0, [], rfl, Nat.zero_le _, Ow.nil _ _ _, Lib.hid ⟨SelI.zero _, Ch.refl _ _⟩⟩
    case round =>
      obtain ⟨ii, ys, rfl, hi, hown, HI⟩ := hrel
      obtain ⟨a3, cap3, rfl, -⟩ := hown.rd
      have hyl := HI.out.1.2.2
      by_cases hlt : ii < es.length
      · have hlt' : (ii : Int) < (es.length : Int) := by omega
        have hi0 : (0 : Int) ≤ (ii : Int) := by omega
        have hz := HI.out.2.size
        have hDr := HD3.out.keep HI.out.2 id
        obtain ⟨c0, c1⟩ := hDr.cells hlt
        by_cases hla : ii + 1 = es.length
        · have hla' : ((ii : Int) + 1 == (es.length : Int)) = true := by rw [beq_iff_eq]; omega
          have HSel := Lib.hid (HI.out.1.take HT.out.2 hlt (.inl hla))
          have HCh := Lib.hid HI.out.2
          clear hla hDr
          generalize ky es ii = kk at *
          generalize vl es ii = vv at *
          have h2 : ∀ n, Ow (((wr.alloc (.cells #[.string kk, .int .i64 vv] 55)).drewN n).alloc (.cells #[.string kk, .int .i64 vv] 55)) w3.heap.size 55 (.slice a3 ys.length cap3) ys := fun n => hown.keep (((Ch.alloc (fun _ => False) _ _).tr (Ch.drewN _ _ _)).tr (Ch.alloc _ _ _)) (fun _ _ _ => id)
          go_wp2_with fail
          go_quiet (fail)
          go_wp2_with (at_builtin; refine wpList_pair rfl (.tmp 34) (.tmp 36) 27 55 rfl Try.underlying27 Try.info55 w3.heap.size (.slice a3 ys.length cap3) ys rfl (h2 _) _ kk vv rfl ?_ (by omega) (by simp; omega) ?_; (have := heap_alloc_new ((wr.alloc (.cells #[.string kk, .int .i64 vv] 55)).drewN nq) (.cells #[.string kk, .int .i64 vv] 55); simpa using this); intro v' w4 hown4 hc4)
          have hch4 : Ch (fun _ => False) w3 w4 := (((HCh.out.tr (Ch.alloc _ _ _)).tr (Ch.drewN _ _ _)).tr (Ch.alloc _ _ _)).trans hc4 (fun j hj h => by omega)
          clear hown h2 c0 c1 hc4
          go_wp2
          go_roundw
          case rel => exact ⟨ii + 1, ys ++ [(kk, vv)], by go_num, by omega, hown4, Lib.hid ⟨HSel.out, hch4⟩⟩
          case measure => simp [intOf]; omega
        · have hla' : ((ii : Int) + 1 == (es.length : Int)) = false := by rw [beq_eq_false_iff_ne]; omega
          have hla2 : ¬ ((ii : Int) + 1 = (es.length : Int)) := by omega
          obtain ⟨q, hq⟩ : ∃ q, ii + 1 = q := ⟨_, rfl⟩
          have hqI : (ii : Int) + 1 = (q : Int) := by omega
          have wq : IntKind.i64.wrap ((ii : Int) + 1) = (q : Int) := (IntWalk.i64_in _ (by omega)).trans hqI
          have wq2 : IntKind.i64.wrap (q : Int) = (q : Int) := IntWalk.i64_in _ (by omega)
          have hql : (q : Int) < (es.length : Int) := by omega
          have hq0 : (0 : Int) ≤ (q : Int) := by omega
          have hql2 : q < es.length := by omega
          have hqn : ((q : Int) == (es.length : Int)) = false := by rw [beq_eq_false_iff_ne]; omega
          obtain ⟨d0, d1⟩ := hDr.cells (i := q) hql2
          have d0' := fun o => (Ch.alloc (fun _ => False) wr o).cell d0 id
          have HQ := Lib.hid hq
          have HCh := Lib.hid HI.out.2
          cases hxy : lt (ky es ii) (ky es q) with
          | true =>
            have HSel := Lib.hid (HI.out.1.take HT.out.2 hlt (.inr (by rw [hq]; exact hxy)))
            have HLs := Lib.hid (less_str (ky es ii) (ky es q))
            rw [hxy] at HLs
            clear hla hDr hq hxy
            generalize ky es ii = kk at *
            generalize vl es ii = vv at *
            generalize ky es q = yk at *
            generalize vl es q = yv at *
            have h2 : Ow (((wr.alloc (.cells #[.string kk, .int .i64 vv] 55)).drew).alloc (.cells #[.string kk, .int .i64 vv] 55)) w3.heap.size 55 (.slice a3 ys.length cap3) ys := hown.keep (((Ch.alloc (fun _ => False) _ _).tr (Ch.drew _ _)).tr (Ch.alloc _ _ _)) (fun _ _ _ => id)
            have p0 : (wr.alloc (.cells #[.string kk, .int .i64 vv] 55)).cell? ⟨wr.heap.size, 0, none⟩ = some (.string kk) := by rw [cell_of_row _ _ _ _ _ _ (heap_alloc_new _ _)]; rfl
            have p1 : (wr.alloc (.cells #[.string kk, .int .i64 vv] 55)).cell? ⟨wr.heap.size, 1, none⟩ = some (.int .i64 vv) := by rw [cell_of_row _ _ _ _ _ _ (heap_alloc_new _ _)]; rfl
            have dd := d0' (.cells #[.string kk, .int .i64 vv] 55)
            have HCW := Lib.hid (HCh.out.tr (Ch.alloc (fun _ => False) wr (.cells #[.string kk, .int .i64 vv] 55)))
            have hzW := HCW.out.size
            clear d0' d0 d1
            go_wp2_with fail
            clear c0 c1
            generalize wr.alloc (.cells #[.string kk, .int .i64 vv] 55) = W at *
            go_still_tail 14, (by kernel_rfl)
            change wpList _ _ _ _ _ W.drew
            go_wp2_with (first | (go_at_call 37; (with_reducible refine (HLs.out _).mono ?_); rintro e w5 ⟨rfl, rfl⟩) | (at_builtin; refine wpList_pair rfl (.tmp 34) (.tmp 36) 27 55 rfl Try.underlying27 Try.info55 w3.heap.size (.slice a3 ys.length cap3) ys rfl h2 _ kk vv rfl ?_ (by omega) (by simp; omega) ?_; exact heap_alloc_new W.drew (.cells #[.string kk, .int .i64 vv] 55); intro v' w4 hown4 hc4))
            have hch4 : Ch (fun _ => False) w3 w4 := ((HCW.out.tr (Ch.drew _ _)).tr (Ch.alloc _ _ _)).trans hc4 (fun j hj h => by omega)
            clear hown h2 hc4 p0 p1 dd
            go_wp2
            go_roundw
            case rel => exact ⟨ii + 1, ys ++ [(kk, vv)], by go_num, by omega, hown4, Lib.hid ⟨HSel.out, hch4⟩⟩
            case measure => simp [intOf]; omega
          | false =>
            have HSel := Lib.hid (HI.out.1.skip hla (by rw [hq]; exact hxy))
            have HLs := Lib.hid (less_str (ky es ii) (ky es q))
            rw [hxy] at HLs
            clear hla hDr hq hxy
            generalize ky es ii = kk at *
            generalize vl es ii = vv at *
            generalize ky es q = yk at *
            generalize vl es q = yv at *
            have h2 : Ow ((wr.alloc (.cells #[.string kk, .int .i64 vv] 55)).drew) w3.heap.size 55 (.slice a3 ys.length cap3) ys := hown.keep ((Ch.alloc (fun _ => False) _ _).tr (Ch.drew _ _)) (fun _ _ _ => id)
            have p0 : (wr.alloc (.cells #[.string kk, .int .i64 vv] 55)).cell? ⟨wr.heap.size, 0, none⟩ = some (.string kk) := by rw [cell_of_row _ _ _ _ _ _ (heap_alloc_new _ _)]; rfl
            have p1 : (wr.alloc (.cells #[.string kk, .int .i64 vv] 55)).cell? ⟨wr.heap.size, 1, none⟩ = some (.int .i64 vv) := by rw [cell_of_row _ _ _ _ _ _ (heap_alloc_new _ _)]; rfl
            have dd := d0' (.cells #[.string kk, .int .i64 vv] 55)
            have HCW := Lib.hid (HCh.out.tr (Ch.alloc (fun _ => False) wr (.cells #[.string kk, .int .i64 vv] 55)))
            have hzW := HCW.out.size
            clear d0' d0 d1
            go_wp2_with fail
            clear c0 c1
            generalize wr.alloc (.cells #[.string kk, .int .i64 vv] 55) = W at *
            go_still_tail 14, (by kernel_rfl)
            change wpList _ _ _ _ _ W.drew
            go_wp2_with (go_at_call 37; (with_reducible refine (HLs.out _).mono ?_); rintro e w5 ⟨rfl, rfl⟩)
            go_roundw
            case rel => exact ⟨ii + 1, ys, by go_num, by omega, h2, Lib.hid ⟨HSel.out, HCW.out.tr (Ch.drew _ _)⟩⟩
            case measure => simp [intOf]; omega
      · have hlt' : (es.length : Int) ≤ (ii : Int) := by omega
        go_wp2
        go_ret
        exact ⟨_, ys, rfl, hown.low (by omega), by have := HXL.out; omega, (HI.out.1.sp HT.out.2 (by omega)).sim HT.out.1, HW.out.tr HI.out.2⟩
end Go.Proofs.Ytlgamaldngkdnaa
