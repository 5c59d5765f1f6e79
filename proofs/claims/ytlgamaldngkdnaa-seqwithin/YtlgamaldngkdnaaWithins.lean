/- Walk of the law SeqWithin. -/
import Derived.Test.YtlgamaldngkdnaaAwaken
import Derived.Test.YtlgamaldngkdnaaWithin
import Derived.Test.YtlgamaldngkdnaaSortR
import Derived.Test.YtlgamaldngkdnaaLists
import Derived.Deep.RegionHeld3
namespace Go.Proofs.Ytlgamaldngkdnaa
open Go Go.RowKit

theorem enters41 : ∀ args w, (callFunc 41 args).run Try.prog w = .ok (.enter 41 args) w := enters_of Try.func41 (by kernel_rfl) rfl
theorem enters26 : ∀ args w, (callFunc 26 args).run Try.prog w = .ok (.enter 26 args) w := enters_of Try.func26 (by kernel_rfl) rfl
theorem filter_take_in (f t : ByteArray) (xs : List Pr) (i : Nat) (h : i < xs.length) (b : Bool) (hb : inP f t (ky xs i, vl xs i) = b) : (xs.take (i + 1)).filter (inP f t) = (xs.take i).filter (inP f t) ++ (if b then [(ky xs i, vl xs i)] else []) := by
  rw [take_succ_pr xs i h, List.filter_append]
  cases b with
  | true => rw [List.filter_cons_of_pos hb]; rfl
  | false => rw [List.filter_cons_of_neg (by rw [hb]; simp)]; rfl
set_option maxRecDepth 100000 in
set_option maxHeartbeats 400000 in
/-- The document's Within. -/
theorem rwithin_any (a : Option Addr) (cap : Nat) (xs : List Pr) (hn : xs.length ≤ 1000) (f t : ByteArray) (w : World) (hr : Rd w a xs) :
    Calls Try.prog 25 #[.slice a xs.length cap, .string f, .string t] w fun e w' => ∃ v, e = .returned v ∧ Ow w' w.heap.size 30 v (xs.filter (inP f t)) ∧ Ch (fun _ => False) w w' := by
  have hld := lt_def
  go_enter Try.func25, Try.ntmps25
  go_wp2
  go_loopw [7, 8] (fun v i wr => ∃ (ii : Nat), i = .int .i64 (ii : Int) ∧ ii ≤ xs.length ∧ Ow wr w.heap.size 30 v ((xs.take ii).filter (inP f t)) ∧ Ch (fun _ => False) w wr) (fun _ i _ => xs.length - (intOf i).toNat)
  case atStart => exact ⟨0, rfl, Nat.zero_le _, Ow.nil _ _ _, Ch.refl _ _⟩
  case round =>
    obtain ⟨ii, rfl, hi, hown, hch⟩ := hrel
    by_cases hlt : ii < xs.length
    · have hlt' : (ii : Int) < (xs.length : Int) := by omega
      have hi0 : (0 : Int) ≤ (ii : Int) := by omega
      obtain ⟨b, off, rfl, hc1, hc2⟩ := (hr.keep hch (fun _ _ => id)) ii hlt
      have HT := Lib.hid (fun b hb => filter_take_in f t xs ii hlt b hb)
      have hz := hch.size
      have hln : ((xs.take ii).filter (inP f t)).length ≤ 1000 := by have := List.length_filter_le (inP f t) (xs.take ii); rw [List.length_take] at this; omega
      generalize ky xs ii = kk at hc1 HT
      generalize vl xs ii = vv at hc2 HT
      generalize (xs.take ii).filter (inP f t) = l7 at hown HT hln
      have hin : inP f t (kk, vv) = (!lt kk f && lt kk t) := rfl
      have HIN := Lib.hid hin
      clear hin
      cases h1 : lt kk f with
      | true =>
        have HE := Lib.hid (HT.out false (by rw [HIN.out, h1]; rfl))
        clear HT HIN
        go_wp2
        go_roundw
        case rel => exact ⟨ii + 1, by go_num, by omega, by rw [HE.out]; simpa using hown, hch⟩
        case measure => simp [intOf]; omega
      | false =>
        cases h2 : lt kk t with
        | false =>
          have HE := Lib.hid (HT.out false (by rw [HIN.out, h1, h2]; rfl))
          clear HT HIN
          go_wp2
          go_roundw
          case rel => exact ⟨ii + 1, by go_num, by omega, by rw [HE.out]; simpa using hown, hch⟩
          case measure => simp [intOf]; omega
        | true =>
          have HE := Lib.hid (HT.out true (by rw [HIN.out, h1, h2]; rfl))
          clear HT HIN
          have h3 : Ow (wr.alloc (.cells #[.string kk, .int .i64 vv] 30)) w.heap.size 30 u7 l7 := hown.keep (Ch.alloc (fun _ => False) _ _) (fun _ _ _ => id)
          go_wp2_with (at_builtin; refine wpList_pair rfl (.tmp 31) (.tmp 36) 22 30 rfl Try.underlying22 Try.info30 w.heap.size u7 l7 rfl h3 _ kk vv rfl (heap_alloc_new _ _) (by omega) (by simp; omega) ?_; intro v' w3 hown3 hc3)
          have hch3 : Ch (fun _ => False) w w3 := (hch.tr (Ch.alloc _ _ _)).trans hc3 (fun j hj h => by omega)
          clear hown h3 hc1 hc2 hc3 hch
          go_wp2
          go_roundw
          case rel => exact ⟨ii + 1, by go_num, by omega, by rw [HE.out]; simpa using hown3, hch3⟩
          case measure => simp [intOf]; omega
    · have hlt' : (xs.length : Int) ≤ (ii : Int) := by omega
      rw [List.take_of_length_le (by omega)] at hown
      go_wp2
      go_ret
      exact ⟨_, rfl, hown, hch⟩
theorem list_within (b base : Nat) (v : Value) (xs : List Pr) (hx : xs.length ≤ 300) (hrise : Rise xs) (f t : ByteArray) (bs bt bf : Nat) (W : World) (hg : OfG b base v xs W) (hs : Boxed W bs 25 (ofRun b)) (hf : Boxed W bf 9 (.string f)) (ht : Boxed W bt 9 (.string t)) :
    Calls Try.prog 17 #[withinRun bs bt bf] W fun e W' => ∃ v, e = .returned v ∧ Ow W' W.heap.size 55 v (xs.filter (inP f t)) ∧ Ch (fun _ => False) W W' := by
  have hit := within_iter enters32 (of_iter b base v xs (by omega)) (ofG_stab _ _ _ _) f t hrise bs bt bf
  have hst : Stab (fun k => ¬ WithinK bs bt bf (OfK b v) k) (WithinGs bs bt bf (ofRun b) f t (OfG b base v xs)) := by
    rintro A B ⟨b1, b2, b3, h4⟩ hc
    exact ⟨hc.boxed b1 (fun h => h (.inl rfl)), hc.boxed b2 (fun h => h (.inr (.inl rfl))), hc.boxed b3 (fun h => h (.inr (.inr (.inl rfl)))), ofG_stab _ _ _ _ A B h4 (hc.mono fun j _ h hk => h (.inr (.inr (.inr hk))))⟩
  refine (list_any enters41 hit ?_ W ?_ (fun k hk => hk.elim) (fun _ => hst) hst ⟨hs, ht, hf, hg⟩).mono fun _ _ ⟨v, h1, h2, _, h4⟩ => ⟨v, h1, h2, h4⟩
  · have := List.length_filter_le (inP f t) xs; omega
  · intro k h
    rcases h with h | h | h | h
    · rw [h]; exact hs.lt
    · rw [h]; exact ht.lt
    · rw [h]; exact hf.lt
    · exact ofK_lt hg k h
def fromP (f : ByteArray) (x : Pr) : Bool := !lt x.1 f
def BoxG (bF : Nat) (f : ByteArray) (_ : List Pr) (W : World) : Prop := Boxed W bF 9 (.string f)
theorem boxG_stab (bF : Nat) (f : ByteArray) (zs : List Pr) : Stab (fun k => ¬ (k = bF)) (BoxG bF f zs) := fun _ _ h hc => hc.boxed h (fun h => h rfl)
set_option maxHeartbeats 400000 in
theorem keep26 (bF : Nat) (f : ByteArray) (xs : List Pr) : Keep 26 #[.pointer (some ⟨bF, 0, none⟩)] (fromP f) xs (fun _ => False) (BoxG bF f) := by
  rintro zs ⟨kk, vv⟩ W hpre hg
  have hld := lt_def
  have hc : W.cell? ⟨bF, 0, none⟩ = some (.string f) := hg.cell
  unfold enc2
  simp only [List.append_toArray, List.cons_append, List.nil_append]
  go_enter Try.func26, Try.ntmps26
  go_wp2
  go_ret
  exact ⟨rfl, hg, Ch.refl _ _⟩
theorem list_from (b base : Nat) (v : Value) (xs : List Pr) (hx : xs.length ≤ 300) (f : ByteArray) (bF bk bs : Nat) (W : World) (hg : OfG b base v xs W) (hF : Boxed W bF 9 (.string f)) (hk : Boxed W bk 32 (.func (.func 26) #[] #[.pointer (some ⟨bF, 0, none⟩)])) (hs : Boxed W bs 25 (ofRun b)) :
    Calls Try.prog 17 #[onlyRun bk bs] W fun e W' => ∃ v, e = .returned v ∧ Ow W' W.heap.size 55 v (xs.filter (fromP f)) ∧ Ch (fun _ => False) W W' := by
  have hit := only_iter enters32 (of_iter b base v xs (by omega)) (fun _ => ofG_stab _ _ _ _) (ofG_stab _ _ _ _) enters26 (keep26 bF f xs) (boxG_stab bF f) (fun k h => h.elim) (fun k h => h.elim) bk bs (fun k h => h.elim (fun h => h.elim) (fun h => h.elim))
  refine (list_any enters33 hit ?_ W ?_ (fun k hk => hk.elim id id |>.elim) (onlyG_stab (fun _ => ofG_stab _ _ _ _) (boxG_stab bF f)) (onlyGs_stab (ofG_stab _ _ _ _) (boxG_stab bF f)) ⟨hk, hs, hg, hF⟩).mono fun _ _ ⟨v, h1, h2, _, h4⟩ => ⟨v, h1, h2, h4.mono fun j _ h => h.elim id id⟩
  · have := List.length_filter_le (fromP f) xs; omega
  · intro k h
    rcases h with h | h | h | h
    · rw [h]; exact hk.lt
    · rw [h]; exact hs.lt
    · exact ofK_lt hg k h
    · rw [h]; exact hF.lt
theorem rise_tail {x : Pr} {xs : List Pr} (h : Rise (x :: xs)) : Rise xs := fun i j hij hj => h (i + 1) (j + 1) (by omega) (by simpa using hj)
theorem lt_empty (s : ByteArray) : lt s ByteArray.empty = false := by
  unfold lt
  rw [show ByteArray.empty.toList = [] by first | kernel_rfl | decide | simp [ByteArray.toList, ByteArray.toList.loop]]
  cases s.toList <;> rfl
theorem split_from (f : ByteArray) (xs : List Pr) (h : Rise xs) : xs.filter (inP ByteArray.empty f) ++ xs.filter (fromP f) = xs := by
  induction xs with
  | nil => rfl
  | cons x xs ih =>
    have ih' := ih (rise_tail h)
    cases hx : lt x.1 f with
    | true =>
      rw [List.filter_cons_of_pos (by unfold inP; rw [lt_empty, hx]; rfl), List.filter_cons_of_neg (by unfold fromP; rw [hx]; simp), List.cons_append, ih']
    | false =>
      have h0 : xs.filter (inP ByteArray.empty f) = [] := by
        rw [List.filter_eq_nil_iff]
        intro y hy
        obtain ⟨j, hj, rfl⟩ := List.getElem_of_mem hy
        have h1 := h 0 (j + 1) (by omega) (by simpa using hj)
        have e2 : ky (x :: xs) (j + 1) = (xs[j]).1 := by unfold ky; simp [List.getD_eq_getElem?_getD, List.getElem?_eq_getElem hj]
        rw [e2] at h1
        unfold inP
        cases h2 : lt (xs[j]).1 f with
        | false => simp
        | true =>
          have h3 : lt x.1 f = true := lt_trans' h1 h2
          rw [hx] at h3; cases h3
      rw [h0, List.nil_append] at ih'
      rw [List.filter_cons_of_neg (by unfold inP; rw [hx]; simp), List.filter_cons_of_pos (by unfold fromP; rw [hx]; rfl), h0, List.nil_append, ih']
theorem append_nil27 (ty : TypeId) (a : Option Addr) (n c c' : Nat) (h : n ≤ c) (w : World) : (Builtin.append_ #[27, 27] ty #[.slice a n c, .slice none 0 c']).run Try.prog w = .ok (.slice a n c) w := by
  obtain ⟨i0, hi, hz0, hz1, hz2⟩ := info_parts Try.info55
  cases a <;> simp [Builtin.append_, run_underlying Try.underlying27, sizeOf, typeInfo, hi, Builtin.lenOf, h, Builtin.firstCells, loadCells, storeCells]
theorem wpList_nil27 {w : World} {o : Oper} {a : Act} {Q : Exit → Act → World → Prop} {ops : Array Oper} {rest : List Oper} (hgd : o.guard = none) (s x : Operand) (ho : o.op = .call { callee := .builtin .append, args := #[s, x], argTypes := #[27, 27] })
    (ad : Option Addr) (n c c' : Nat) (hs : a.eval s = .slice ad n c) (hx : a.eval x = .slice none 0 c') (hn : n ≤ c) (h : wpList Try.prog ops Q rest (a.put o.dst (.slice ad n c)) w) : wpList Try.prog ops Q (o :: rest) a w := by
  refine wpList_plain hgd fun K hK => ?_
  unfold Oper.wp execOp
  simp only [ho, resolve, invoke, builtin, Sem.run_bind, Sem.run_pure, Result.andThen_ok, List.map_toArray, List.map_cons, List.map_nil, hs, hx, append_nil27 o.type ad n c c' hn w]
  exact hK _ _ h
/-- append of all pairs of a slice. -/
theorem wpList_all27 {w : World} {o : Oper} {a : Act} {Q : Exit → Act → World → Prop} {ops : Array Oper} {rest : List Oper} (hgd : o.guard = none) (s x : Operand) (ho : o.op = .call { callee := .builtin .append, args := #[s, x], argTypes := #[27, 27] })
    (base : Nat) (v : Value) (xs ys : List Pr) (hs : a.eval s = v) (hown : Ow w base 55 v xs) (g cap : Nat) (hx : a.eval x = .slice (some ⟨g, 0, none⟩) ys.length cap) (hy : Rd w (some ⟨g, 0, none⟩) ys) (hlen : xs.length + ys.length ≤ 100000000) (hbase : base ≤ w.heap.size)
    (h : ∀ v' w', Ow w' base 55 v' (xs ++ ys) → Ch (fun j => base ≤ j) w w' → wpList Try.prog ops Q rest (a.put o.dst v') w') : wpList Try.prog ops Q (o :: rest) a w := by
  obtain ⟨i0, hi, hz0, hz1, hz2⟩ := info_parts Try.info55
  refine wpList_append_own _ hgd s x 27 ho base 55 i0 _ 2 24 Try.underlying27 hi hz0 hz1 hz2 rfl (by decide) v xs.length (cellsP xs) hs hown ⟨g, 0, none⟩ ys.length cap (cellsP ys) hx (cellsP_length ys) ?_ ?_ (by unfold maxLen; omega) (by omega) hbase ?_
  · intro j y hj
    have e : (⟨g, 0, none⟩ : Addr).add j = ⟨g, j, none⟩ := by unfold Addr.add; split <;> simp_all
    have hj' : j < ys.length * 2 := by have := (List.getElem?_eq_some_iff.1 hj).1; rwa [cellsP_length] at this
    obtain ⟨b, off, he, h1, h2⟩ := hy (j / 2) (by omega)
    obtain ⟨rfl, rfl⟩ : g = b ∧ 0 = off := by injection he with h; injection h with h1 h2; exact ⟨h1, h2⟩
    obtain ⟨e1, e2⟩ := cellsP_even ys (j / 2) (by omega)
    rw [e]
    rcases Nat.mod_two_eq_zero_or_one j with hm | hm
    · rw [show j / 2 * 2 = j by omega] at e1 h1
      rw [Nat.zero_add] at h1
      rw [h1, ← e1, hj]
    · rw [show j / 2 * 2 + 1 = j by omega] at e2
      rw [show 0 + j / 2 * 2 + 1 = j by omega] at h2
      rw [h2, ← e2, hj]
  · intro y hy
    obtain ⟨p, _, hp⟩ := List.mem_flatMap.1 hy
    simp only [List.mem_cons, List.not_mem_nil, or_false] at hp
    rcases hp with rfl | rfl <;> rfl
  · intro v' w' h1 h2 _
    refine h v' w' ?_ (Ch.of_grown h2 fun k hk => (hown.own k hk).1)
    unfold Ow
    rw [cellsP_append, List.length_append]
    exact h1

set_option maxRecDepth 100000 in
set_option maxHeartbeats 2000000 in
theorem seqWithin_any (a : Option Addr) (cap : Nat) (xs : List Pr) (f t : ByteArray) (w : World) (hr : Rd w a xs) :
    Calls Try.prog 5 #[.slice a xs.length cap, .string f, .string t] w fun e w' => e = .returned (.bool true) ∧ Ch (fun _ => False) w w' := by
  have HR := Lib.hid hr
  clear hr
  obtain ⟨wF, hwF⟩ : ∃ wF, w.alloc (.cells #[.string f] 9) = wF := ⟨_, rfl⟩
  obtain ⟨bF, hbF⟩ : ∃ bF, w.heap.size = bF := ⟨_, rfl⟩
  have hF0 : Boxed wF bF 9 (.string f) := by rw [← hwF, ← hbF]; exact Boxed.new w 9 _
  have hcF : Ch (fun _ => False) w wF := by rw [← hwF]; exact Ch.alloc _ w _
  by_cases hl : xs.length ≤ 300
  · have hi : (xs.length : Int) ≤ 300 := by omega
    go_enter Try.func5, Try.ntmps5
    go_wp2_with fail
    clear hwF hbF
    refine (awake_any wF).mono ?_
    rintro e w1 ⟨rfl, hc1⟩
    have hF1 := hc1.boxed hF0 id
    have hw1 := hcF.tr hc1
    clear hF0 hcF hc1
    go_wp2_with fail
    refine (rsorted_any a cap xs (by omega) w1 (HR.out.keep hw1 (fun _ _ => id))).mono ?_
    rintro e w2 ⟨v2, ys, rfl, ho2, hyl, hrise, hc2⟩
    have HRI := Lib.hid hrise
    have hys : ys.length ≤ 300 := by omega
    clear hrise hyl
    obtain ⟨a2, k2, rfl, hr2, -⟩ := ho2.rd
    have hF2 := hc2.boxed hF1 id
    have hw2 := hw1.tr hc2
    clear ho2 hF1 hw1 hc2
    go_wp2_with fail
    refine (pairs_any a2 k2 ys (by omega) w2 hr2).mono ?_
    rintro e w3 ⟨v3, rfl, ho3, hc3⟩
    go_wp2_with fail
    refine (of_any _ v3 ys (by omega) w3 ho3).mono ?_
    rintro e w4 ⟨b4, v4, rfl, hb4, hg4, hc4⟩
    unfold ofRun
    have hf : ∀ V, Ch (fun _ => False) w4 V → OfG b4 w3.heap.size v4 ys V ∧ Rd V a2 ys ∧ Boxed V bF 9 (.string f) ∧ Ch (fun _ => False) w V := fun V hV =>
      ⟨ofG_stab _ _ _ _ _ _ hg4 (hV.mono fun j _ h => h.elim), hr2.keep ((hc3.tr hc4).tr hV) (fun _ _ => id), ((hc3.tr hc4).tr hV).boxed hF2 id, ((hw2.tr hc3).tr hc4).tr hV⟩
    have HF := Lib.hid hf
    clear hf hr2 ho3 hg4 hc3 hc4 hF2 hw2 hb4
    have hlf : ∀ p : Pr → Bool, (ys.filter p).length ≤ 300 := fun p => by have := List.length_filter_le p ys; omega
    have HLF := Lib.hid hlf
    clear hlf
    have hcl : w4.cell? ⟨bF, 0, none⟩ = some (.string f) := (HF.out w4 (Ch.refl _ _)).2.2.1.cell
    obtain ⟨l1, hl1⟩ : ∃ l, ys.filter (inP f t) = l := ⟨_, rfl⟩
    have HL1 := Lib.hid hl1
    have hl1n : l1.length ≤ 300 := by rw [← hl1]; exact HLF.out _
    clear hl1
    go_wp2_with fail
    go_region_held3 (fun V => V.cell? ⟨bF, 0, none⟩ = some (.string f)) (first | exact hcl | exact q24 | exact q17 | exact q25 | exact q16) ((first
      | (go_at_call 24; refine (within_any _ _ _ _ rfl f t _).mono ?_; rintro e V1 ⟨rfl, b1, b2, b3, hd1⟩; have hV1 : Ch (fun _ => False) w4 V1 := (Ch.drew _ w4).tr hd1; have q24 : V1.cell? ⟨bF, 0, none⟩ = some (.string f) := (HF.out V1 hV1).2.2.1.cell; clear hd1)
      | (go_at_call 17; refine (list_within b4 _ v4 ys hys HRI.out f t _ _ _ V1 (HF.out V1 hV1).1 b1 b2 b3).mono ?_; rintro e V2 ⟨va, rfl, hoa, hd2⟩; rw [HL1.out] at hoa; have hV2 : Ch (fun _ => False) w4 V2 := hV1.tr hd2; have q17 : V2.cell? ⟨bF, 0, none⟩ = some (.string f) := (HF.out V2 hV2).2.2.1.cell; obtain ⟨aa, ka, rfl, hra, -⟩ := hoa.rd; clear hoa hd2)
      | (go_at_call 25; refine (rwithin_any a2 k2 ys (by omega) f t V2 (HF.out V2 hV2).2.1).mono ?_; rintro e V3 ⟨vb, rfl, hob, hd3⟩; rw [HL1.out] at hob; have hV3 : Ch (fun _ => False) w4 V3 := hV2.tr hd3; have q25 : V3.cell? ⟨bF, 0, none⟩ = some (.string f) := (HF.out V3 hV3).2.2.1.cell; obtain ⟨ab, kb, rfl, hrb, -⟩ := hob.rd; have hra3 := hra.keep hd3 (fun _ _ => id); clear hob hd3)
      | (go_at_call 16; refine (same_any _ _ _ _ l1 (by omega) V3 hra3 hrb).mono ?_; rintro e V4 ⟨rfl, hd4⟩; have hV4 : Ch (fun _ => False) w4 V4 := hV3.tr hd4; have q16 : V4.cell? ⟨bF, 0, none⟩ = some (.string f) := (HF.out V4 hV4).2.2.1.cell)))
    all_goals
      clear q24 q17 q25 q16 b1 b2 b3 hra hra3 hrb hV1 hV2 hV3 hd4 hcl
      have c4 := (HF.out V4 hV4).2.2.1.cell
      go_wp2_with fail
      refine (within_any _ _ _ _ rfl ByteArray.empty f V4).mono ?_
      rintro e V5 ⟨rfl, b1, b2, b3, hd5⟩
      unfold withinRun
      have hV5 := hV4.tr hd5
      clear hV4 hd5 c4
      go_wp2_with fail
      refine (list_within b4 _ v4 ys hys HRI.out ByteArray.empty f _ _ _ V5 (HF.out V5 hV5).1 b1 b2 b3).mono ?_
      rintro e V6 ⟨va, rfl, hoa, hd6⟩
      have hV6 := hV5.tr hd6
      have z45 := hV5.size
      have z56 := hd6.size
      clear hV5 hd6 b1 b2 b3
      obtain ⟨m1, hm1⟩ : ∃ l, ys.filter (inP ByteArray.empty f) = l := ⟨_, rfl⟩
      obtain ⟨m2, hm2⟩ : ∃ l, ys.filter (fromP f) = l := ⟨_, rfl⟩
      rw [hm1] at hoa
      have hm1n : m1.length ≤ 300 := by rw [← hm1]; exact HLF.out _
      have hm2n : m2.length ≤ 300 := by rw [← hm2]; exact HLF.out _
      have hsp : m1 ++ m2 = ys := by rw [← hm1, ← hm2]; exact split_from f ys HRI.out
      have HM := Lib.hid (And.intro hm2 hsp)
      clear hm1 hm2 hsp
      obtain ⟨ga, ka, rfl, hra, hga, -⟩ := hoa.rd
      go_wp2_with fail
      refine (only_any _ _ _ _ _ _ _ _ rfl rfl V6).mono ?_
      rintro e V7 ⟨rfl, hk7, hs7, hd7, -⟩
      unfold onlyRun
      have hV7 := hV6.tr hd7
      have hoa7 := hoa.keep hd7 (fun _ _ _ => id)
      have z67 := hd7.size
      clear hV6 hd7 hoa hra hga
      go_wp2_with fail
      refine (list_from b4 _ v4 ys hys f bF _ _ V7 (HF.out V7 hV7).1 (HF.out V7 hV7).2.2.1 hk7 hs7).mono ?_
      rintro e V8 ⟨vb, rfl, hob, hd8⟩
      have hV8 := hV7.tr hd8
      have hoa8 := hoa7.keep hd8 (fun _ _ _ => id)
      rw [HM.out.1] at hob
      have z58 : V5.heap.size ≤ V8.heap.size := by have := hd8.size; omega
      clear hV7 hd8 hoa7 hk7 hs7 z56 z67
      have f8 := HF.out V8 hV8
      rcases hob.2 with ⟨rfl, h0⟩ | ⟨gb, cb, curb, rfl, hbb, hgb, hnb, hcb, hsb, htb⟩
      · have hm20 : m2 = [] := List.length_eq_zero_iff.1 h0
        have hca : m1.length ≤ ka := by
          rcases hoa8.2 with ⟨h, h1⟩ | ⟨_, _, _, h, _, _, h1, _⟩
          · injection h with _ _ h3; omega
          · injection h with _ _ h3; omega
        have hye : m1 = ys := by rw [← HM.out.2, hm20, List.append_nil]
        have hr9 : Rd V8 ga m1 := by
          obtain ⟨_, _, hv9, hr9, -⟩ := hoa8.rd
          injection hv9 with h1 h2 h3
          rw [h1]; exact hr9
        rw [← hye] at f8
        have HYE := Lib.hid hye
        have hl9 : ys.length = m1.length := by rw [hye]
        clear hm20 h0 hob hoa8 hye
        go_wp2_with (at_builtin; refine wpList_nil27 rfl (.tmp 40) (.tmp 41) rfl ga m1.length ka 0 rfl rfl hca ?_)
        refine (same_any ga a2 ka k2 m1 (by omega) V8 hr9 f8.2.1).mono ?_
        rintro e V9 ⟨rfl, hd9⟩
        have hcW := (HF.out V9 (hV8.tr hd9)).2.2.2
        clear hr9 f8 hd9
        go_wp2
        go_ret
        exact ⟨rfl, hcW⟩
      · have hrb : Rd V8 (some ⟨gb, 0, none⟩) m2 := by
          obtain ⟨_, _, hv9, hr9, -⟩ := hob.rd
          injection hv9 with h1 h2 h3
          rw [h1]; exact hr9
        clear hob hbb hgb hnb hcb hsb htb curb
        go_wp2_with (at_builtin; refine wpList_all27 rfl (.tmp 40) (.tmp 41) rfl V5.heap.size (.slice ga m1.length ka) m1 m2 rfl hoa8 gb cb rfl hrb (by omega) z58 ?_; intro v9 V9 ho9 hd9; rw [HM.out.2] at ho9; obtain ⟨a9, k9, rfl, hr9, -⟩ := ho9.rd)
        have hV9 : Ch (fun _ => False) w4 V9 := hV8.trans hd9 (fun j hj h => by omega)
        refine (same_any a9 a2 k9 k2 ys (by omega) V9 hr9 (HF.out V9 hV9).2.1).mono ?_
        rintro e V10 ⟨rfl, hd10⟩
        have hcW := (HF.out V10 (hV9.tr hd10)).2.2.2
        clear hr9 f8 hd9 hd10 hV9 hV8 hoa8 hrb ho9
        go_wp2
        go_ret
        exact ⟨rfl, hcW⟩
  · have hi : 300 < (xs.length : Int) := by omega
    go_enter Try.func5, Try.ntmps5
    go_wp2_with fail
    refine (awake_any wF).mono ?_
    rintro e w1 ⟨rfl, hc1⟩
    clear hwF hbF
    go_wp2_with fail
    go_ret
    exact ⟨rfl, hcF.tr hc1⟩
end Go.Proofs.Ytlgamaldngkdnaa
