/- Walk of the law SeqLists. -/
import Derived.Test.YtlgamaldngkdnaaEarly
import Derived.Test.YtlgamaldngkdnaaMade
import Derived.Test.YtlgamaldngkdnaaRises
import Derived.Test.YtlgamaldngkdnaaTwo
namespace Go.Proofs.Ytlgamaldngkdnaa
open Go Go.RowKit

theorem enters13 : ∀ args w, (callFunc 13 args).run Try.prog w = .ok (.enter 13 args) w := enters_of Try.func13 (by kernel_rfl) rfl
theorem enters15 : ∀ args w, (callFunc 15 args).run Try.prog w = .ok (.enter 15 args) w := enters_of Try.func15 (by kernel_rfl) rfl
theorem enters35 : ∀ args w, (callFunc 35 args).run Try.prog w = .ok (.enter 35 args) w := enters_of Try.func35 (by kernel_rfl) rfl
def evenP (x : Pr) : Bool := x.2.tmod 2 == 0
def xorP (x : Pr) : Int := bits .xor .i64 x.2 (x.1.size : Int)
set_option maxHeartbeats 400000 in
theorem keep13 (xs : List Pr) : Keep 13 #[] evenP xs (fun _ => False) (fun _ _ => True) := by
  rintro zs ⟨kk, vv⟩ W hpre hg
  unfold enc2
  simp only [Array.append_empty]
  go_enter Try.func13, Try.ntmps13
  go_wp2
  go_ret
  exact ⟨rfl, trivial, Ch.refl _ _⟩
set_option maxHeartbeats 400000 in
theorem mk15 : Mk 15 #[] xorP := by
  rintro ⟨kk, vv⟩ W
  unfold enc2
  simp only [Array.append_empty]
  go_enter Try.func15, Try.ntmps15
  go_wp2
  go_ret
  exact ⟨rfl, rfl⟩

theorem list_of (b base : Nat) (v : Value) (xs : List Pr) (hx : xs.length ≤ 300) (W : World) (hg : OfG b base v xs W) :
    Calls Try.prog 17 #[ofRun b] W fun e W' => ∃ v, e = .returned v ∧ Ow W' W.heap.size 55 v xs ∧ Ch (fun _ => False) W W' :=
  (list_any enters32 (of_iter b base v xs (by omega)) (by omega) W (ofK_lt hg) (fun k hk => hk.elim) (fun _ => ofG_stab _ _ _ _) (ofG_stab _ _ _ _) hg).mono fun _ _ ⟨v, h1, h2, _, h4⟩ => ⟨v, h1, h2, h4⟩
theorem rises_of (b base : Nat) (v : Value) (xs : List Pr) (hx : xs.length ≤ 300) (W : World) (hg : OfG b base v xs W) :
    Calls Try.prog 20 #[ofRun b] W fun e W' => e = .returned (.bool (riseN xs xs.length)) ∧ Ch (fun _ => False) W W' :=
  rises_any enters32 (of_iter b base v xs (by omega)) W (ofK_lt hg) (fun k hk => hk.elim) (fun _ => ofG_stab _ _ _ _) (ofG_stab _ _ _ _) hg
theorem list_head (b base : Nat) (v : Value) (xs : List Pr) (hx : xs.length ≤ 300) (n : Int) (hn : -9223372036854775808 ≤ n ∧ n ≤ 9223372036854775807) (bn bt : Nat) (W : World) (hg : OfG b base v xs W) (hn1 : Boxed W bn 3 (.int .i64 n)) (ht : Boxed W bt 25 (ofRun b)) :
    Calls Try.prog 17 #[headRun bn bt] W fun e W' => ∃ v, e = .returned v ∧ Ow W' W.heap.size 55 v (xs.take n.toNat) ∧ Ch (fun _ => False) W W' := by
  have hit := head_iter enters32 (of_iter b base v xs (by omega)) (fun _ => ofG_stab _ _ _ _) (ofG_stab _ _ _ _) (fun _ h => h) n hn (by omega) bn bt (fun k h => h.elim)
  refine (list_any enters36 hit (by rw [List.length_take]; omega) W ?_ (fun k hk => hk.elim) (headG_stab (fun _ => ofG_stab _ _ _ _)) (headGs_stab (ofG_stab _ _ _ _)) ⟨hn1, ht, hg⟩).mono fun _ _ ⟨v, h1, h2, _, h4⟩ => ⟨v, h1, h2, h4⟩
  intro k h
  rcases h with h | h | h
  · rw [h]; exact hn1.lt
  · rw [h]; exact ht.lt
  · exact ofK_lt hg k h
theorem list_even (b base : Nat) (v : Value) (xs : List Pr) (hx : xs.length ≤ 300) (bk bs : Nat) (W : World) (hg : OfG b base v xs W) (hk : Boxed W bk 32 (.func (.func 13) #[] #[])) (hs : Boxed W bs 25 (ofRun b)) :
    Calls Try.prog 17 #[onlyRun bk bs] W fun e W' => ∃ v, e = .returned v ∧ Ow W' W.heap.size 55 v (xs.filter evenP) ∧ Ch (fun _ => False) W W' := by
  have hst : ∀ zs : List Pr, Stab (fun k => ¬ (fun _ : Nat => False) k) ((fun _ _ => True : List Pr → World → Prop) zs) := fun _ _ _ _ _ => trivial
  have hit := only_iter enters32 (of_iter b base v xs (by omega)) (fun _ => ofG_stab _ _ _ _) (ofG_stab _ _ _ _) enters13 (keep13 xs) hst (fun k h => h.elim) (fun k h => h.elim) bk bs (fun k h => h.elim (fun h => h.elim) (fun h => h.elim))
  refine (list_any enters33 hit ?_ W ?_ (fun k hk => hk.elim id id |>.elim) (onlyG_stab (fun _ => ofG_stab _ _ _ _) hst) (onlyGs_stab (ofG_stab _ _ _ _) hst) ⟨hk, hs, hg, trivial⟩).mono fun _ _ ⟨v, h1, h2, _, h4⟩ => ⟨v, h1, h2, h4.mono fun j _ h => h.elim id id⟩
  · have := List.length_filter_le evenP xs; omega
  · intro k h
    rcases h with h | h | h | h
    · rw [h]; exact hk.lt
    · rw [h]; exact hs.lt
    · exact ofK_lt hg k h
    · exact h.elim
theorem madeG_stab {bs bm : Nat} {fs fm : Value} {mk : Pr → Int} {xs : List Pr} {K : Nat → Prop} {G : List Pr → World → Prop} (hG : ∀ zs, Stab (fun k => ¬ K k) (G zs)) (ys : List Pr) :
    Stab (fun k => ¬ MadeK bs bm K k) (MadeG bs bm fs fm mk xs G ys) := by
  rintro A B ⟨b1, b2, zs, h1, h2, h3⟩ hc
  exact ⟨hc.boxed b1 (fun h => h (.inl rfl)), hc.boxed b2 (fun h => h (.inr (.inl rfl))), zs, h1, h2, hG zs A B h3 (hc.mono fun j _ h hk => h (.inr (.inr hk)))⟩
theorem madeGs_stab {bs bm : Nat} {fs fm : Value} {K : Nat → Prop} {Gs : World → Prop} (hG : Stab (fun k => ¬ K k) Gs) :
    Stab (fun k => ¬ MadeK bs bm K k) (MadeGs bs bm fs fm Gs) := by
  rintro A B ⟨b1, b2, h3⟩ hc
  exact ⟨hc.boxed b1 (fun h => h (.inl rfl)), hc.boxed b2 (fun h => h (.inr (.inl rfl))), hG A B h3 (hc.mono fun j _ h hk => h (.inr (.inr hk)))⟩
theorem list_other (b base : Nat) (v : Value) (xs : List Pr) (hx : xs.length ≤ 300) (bs bm : Nat) (W : World) (hg : OfG b base v xs W) (hs : Boxed W bs 25 (ofRun b)) (hm : Boxed W bm 34 (.func (.func 15) #[] #[])) :
    Calls Try.prog 17 #[madeRun bs bm] W fun e W' => ∃ v, e = .returned v ∧ Ow W' W.heap.size 55 v (mapM xorP xs) ∧ Ch (fun _ => False) W W' := by
  have hit := made_iter enters32 (of_iter b base v xs (by omega)) (fun _ => ofG_stab _ _ _ _) (ofG_stab _ _ _ _) enters15 mk15 bs bm (fun k h => h.elim)
  refine (list_any enters35 hit (by unfold mapM; rw [List.length_map]; omega) W ?_ (fun k hk => hk.elim) (madeG_stab (fun _ => ofG_stab _ _ _ _)) (madeGs_stab (ofG_stab _ _ _ _)) ⟨hs, hm, hg⟩).mono fun _ _ ⟨v, h1, h2, _, h4⟩ => ⟨v, h1, h2, h4⟩
  intro k h
  rcases h with h | h | h
  · rw [h]; exact hs.lt
  · rw [h]; exact hm.lt
  · exact ofK_lt hg k h
theorem filter_take_succ (xs : List Pr) (i : Nat) (h : i < xs.length) (b : Bool) (hb : evenP (ky xs i, vl xs i) = b) : (xs.take (i + 1)).filter evenP = (xs.take i).filter evenP ++ (if b then [(ky xs i, vl xs i)] else []) := by
  rw [take_succ_pr xs i h, List.filter_append]
  cases b with
  | true => rw [List.filter_cons_of_pos hb]; rfl
  | false => rw [List.filter_cons_of_neg (by rw [hb]; simp)]; rfl
theorem mapM_take_succ (xs : List Pr) (i : Nat) (h : i < xs.length) : mapM xorP (xs.take (i + 1)) = mapM xorP (xs.take i) ++ [(ky xs i, xorP (ky xs i, vl xs i))] := by
  rw [take_succ_pr xs i h]; unfold mapM; rw [List.map_append]; rfl

set_option maxRecDepth 100000 in
set_option maxHeartbeats 2000000 in
theorem seqLists_any (a : Option Addr) (cap : Nat) (xs : List Pr) (hks : ∀ i, (ky xs i).size ≤ maxLen) (n : Int) (hn : -9223372036854775808 ≤ n ∧ n ≤ 9223372036854775807) (w : World) (hr : Rd w a xs) :
    Calls Try.prog 3 #[.slice a xs.length cap, .int .i64 n] w fun e w' => e = .returned (.bool true) ∧ Ch (fun _ => False) w w' := by
  have HN := Lib.hid hn
  clear hn
  have HR := Lib.hid hr
  clear hr
  by_cases hl : xs.length ≤ 300
  · have hi : (xs.length : Int) ≤ 300 := by omega
    go_enter Try.func3, Try.ntmps3
    go_wp2_with fail
    refine (awake_any w).mono ?_
    rintro e w1 ⟨rfl, hc1⟩
    go_wp2_with fail
    refine (pairs_any a cap xs (by omega) w1 (HR.out.keep hc1 (fun _ _ => id))).mono ?_
    rintro e w2 ⟨v2, rfl, ho2, hc2⟩
    go_wp2_with fail
    refine (of_any _ v2 xs (by omega) w2 ho2).mono ?_
    rintro e w3 ⟨b3, v3, rfl, hb3, hg3, hc3⟩
    have hcw : Ch (fun _ => False) w w3 := (hc1.tr hc2).tr hc3
    unfold ofRun
    clear hc1 hc2 hc3 ho2
    obtain ⟨B, hB⟩ : ∃ B, B = w3.heap.size := ⟨_, rfl⟩
    have hBz : B ≤ w3.heap.size := by omega
    have hBw : w3.heap.size ≤ B := by omega
    have hwB : w.heap.size ≤ B := by have := hcw.size; omega
    clear hB
    have HK := Lib.hid hks
    clear hks
    go_wp2_with fail
    go_loopw [6, 7, 22] (fun u v i wr => ∃ (ii : Nat), i = .int .i64 (ii : Int) ∧ ii ≤ xs.length ∧ Ow wr B 30 u ((xs.take ii).filter evenP) ∧ Ow wr B 30 v (mapM xorP (xs.take ii)) ∧ Hid (∀ k, u.ownBlock = some k → v.ownBlock ≠ some k) ∧ Ch (fun _ => False) w3 wr ∧ B ≤ wr.heap.size) (fun _ _ i _ => xs.length - (intOf i).toNat)
    case atStart => exact ⟨0, rfl, Nat.zero_le _, Ow.nil _ _ _, Ow.nil _ _ _, Lib.hid (fun k h => by cases h), Ch.refl _ _, hBz⟩
    case round =>
      clear hBz
      obtain ⟨ii, rfl, hi1, ho6, ho7, hne, hch, hBz⟩ := hrel
      by_cases hlt : ii < xs.length
      · have hlt' : (ii : Int) < (xs.length : Int) := by omega
        have hi0 : (0 : Int) ≤ (ii : Int) := by omega
        obtain ⟨b, off, rfl, hc1, hc2⟩ := ((HR.out.keep hcw (fun _ _ => id)).keep hch (fun _ _ => id)) ii hlt
        have hlen6 : ((xs.take ii).filter evenP).length ≤ 300 := by have := List.length_filter_le evenP (xs.take ii); rw [List.length_take] at this; omega
        have hlen7 : (mapM xorP (xs.take ii)).length ≤ 300 := by unfold mapM; rw [List.length_map, List.length_take]; omega
        have HM := Lib.hid (mapM_take_succ xs ii hlt)
        have HF := Lib.hid (fun b hb => filter_take_succ xs ii hlt b hb)
        have hsz := HK.out ii
        generalize ky xs ii = kk at hc1 HM HF hsz
        generalize vl xs ii = vv at hc2 HM HF
        generalize (xs.take ii).filter evenP = l6 at ho6 hlen6 HF
        generalize mapM xorP (xs.take ii) = l7 at ho7 hlen7 HM
        obtain ⟨zz, hzz⟩ : ∃ zz, xorP (kk, vv) = zz := ⟨_, rfl⟩
        have hxo : bits .xor .i64 vv (kk.size : Int) = zz := hzz
        have HZ := Lib.hid hzz
        clear hzz
        have hpb : ∀ V, Ch (fun j => u6.ownBlock = some j) (wr.alloc (.cells #[.string kk, .int .i64 vv] 30)) V → V.cell? ⟨wr.heap.size, 0, none⟩ = some (.string kk) ∧ V.cell? ⟨wr.heap.size, 1, none⟩ = some (.int .i64 vv) := fun V hV => by
          have hh := World.alloc_heap_new wr (.cells #[.string kk, .int .i64 vv] 30)
          have hnb : ¬ (u6.ownBlock = some wr.heap.size) := fun h => by have := (ho6.own _ h).2; omega
          exact ⟨hV.cell (p := ⟨wr.heap.size, 0, none⟩) (by rw [cell_of_row _ _ _ _ _ _ hh]; rfl) hnb, hV.cell (p := ⟨wr.heap.size, 1, none⟩) (by rw [cell_of_row _ _ _ _ _ _ hh]; rfl) hnb⟩
        have HPB := Lib.hid hpb
        clear hpb
        cases hev : evenP (kk, vv) with
        | true =>
          have hev' : (vv.tmod 2 == 0) = true := hev
          have HE := Lib.hid (HF.out true hev)
          clear hev HF
          have h2 : Ch (fun _ => False) wr ((wr.alloc (.cells #[.string kk, .int .i64 vv] 30)).alloc (.cells #[.string kk, .int .i64 vv] 30)) := (Ch.alloc _ wr _).tr (Ch.alloc _ _ _)
          have ho6a := ho6.keep h2 (fun _ _ _ => id)
          have ho7a := ho7.keep h2 (fun _ _ _ => id)
          have H6 := Lib.hid ho6
          have H7 := Lib.hid ho7
          clear ho6 ho7
          go_wp2_with (at_builtin; first
            | (refine wpList_pair2 rfl (.tmp 30) (.tmp 32) 22 30 rfl Try.underlying22 Try.info30 B u6 l6 rfl ho6a _ kk vv rfl ?_ (by omega) ?_ ?_
               · have := heap_alloc_new (wr.alloc (.cells #[.string kk, .int .i64 vv] 30)) (.cells #[.string kk, .int .i64 vv] 30); simpa using this
               · simp; omega
               intro v6 w5 ho65 hc5 hb5
               have ho75 : Ow w5 B 30 u7 l7 := by
                 refine ⟨ho7a.1, ?_⟩
                 rcases ho7a.2 with h | ⟨g, cp, cur, hv, hbg, hg, r⟩
                 · exact .inl h
                 · exact .inr ⟨g, cp, cur, hv, hbg, (hc5.block g (Array.getElem?_eq_some_iff.1 hg).1 (fun h => hne.out g h (by rw [hv]; rfl))).trans hg, r⟩
               have hp5 := HPB.out w5 ((Ch.alloc _ _ _).tr hc5)
               have hp50 := hp5.1
               have hp51 := hp5.2
               have ho75a := ho75.keep (Ch.alloc (fun _ => False) w5 (.cells #[.string kk, .int .i64 zz] 30)) (fun _ _ _ => id)
               have hz5 : B ≤ w5.heap.size := by have := hc5.size; simp at this; omega)
            | (refine wpList_pair2 rfl (.tmp 34) (.tmp 44) 22 30 rfl Try.underlying22 Try.info30 B u7 l7 rfl ho75a _ kk zz rfl (heap_alloc_new _ _) (by omega) ?_ ?_
               · simp; omega
               intro v7 w7 ho77 hc7 hb7))
          have ho67 : Ow w7 B 30 v6 (l6 ++ [(kk, vv)]) := by
            have h := ho65.keep (Ch.alloc (fun _ => False) w5 (.cells #[.string kk, .int .i64 zz] 30)) (fun _ _ _ => id)
            refine ⟨h.1, ?_⟩
            rcases h.2 with h' | ⟨g, cp, cur, hv, hbg, hg, r⟩
            · exact .inl h'
            · refine .inr ⟨g, cp, cur, hv, hbg, (hc7.block g (Array.getElem?_eq_some_iff.1 hg).1 (fun h' => ?_)).trans hg, r⟩
              have hv' : v6.ownBlock = some g := by rw [hv]; rfl
              rcases hb5 with e | e
              · rw [e] at hv'; exact hne.out g hv' h'
              · rw [hv'] at e
                have h1 := (H7.out.own g h').2
                have h2 : g = wr.heap.size + 1 + 1 := by simpa using e
                omega
          have hne7 : ∀ k, v6.ownBlock = some k → v7.ownBlock ≠ some k := by
            intro k hk hk7
            have hk5 := (ho65.own k hk).2
            rcases hb7 with e | e
            · rw [e] at hk7
              rcases hb5 with e5 | e5
              · rw [e5] at hk; exact hne.out k hk hk7
              · rw [hk] at e5
                have h1 := (H7.out.own k hk7).2
                have h2 : k = wr.heap.size + 1 + 1 := by simpa using e5
                omega
            · rw [hk7] at e
              have h2 : k = w5.heap.size + 1 := by simpa using e
              omega
          have hch7 : Ch (fun _ => False) w3 w7 := ((((hch.tr h2).trans hc5 (fun j hj h => by have := (H6.out.own j h).1; have := hch.size; omega)).tr (Ch.alloc _ w5 _)).trans hc7 (fun j hj h => by have := (H7.out.own j h).1; omega))
          have hz7 : B ≤ w7.heap.size := by have := hc7.size; simp at this; omega
          have HN7 := Lib.hid hne7
          clear hne7 hne ho65 ho75 ho75a hc5 hc7 hb5 hb7 hp50 hp51 hz5 ho6a ho7a h2 hch hBz hc1 hc2
          go_wp2
          go_roundw
          case rel => exact ⟨ii + 1, by go_num, by omega, by rw [HE.out]; exact ho67, by rw [HM.out, HZ.out]; exact ho77, HN7, hch7, hz7⟩
          case measure => simp [intOf]; omega
        | false =>
          have hev' : (vv.tmod 2 == 0) = false := hev
          have HE := Lib.hid (HF.out false hev)
          clear hev HF
          have h2 : Ch (fun _ => False) wr (wr.alloc (.cells #[.string kk, .int .i64 vv] 30)) := Ch.alloc _ wr _
          have h3 : Ch (fun _ => False) wr ((wr.alloc (.cells #[.string kk, .int .i64 vv] 30)).alloc (.cells #[.string kk, .int .i64 zz] 30)) := h2.tr (Ch.alloc _ _ _)
          have ho75a := ho7.keep h3 (fun _ _ _ => id)
          have ho6a := ho6.keep h3 (fun _ _ _ => id)
          have H6 := Lib.hid ho6
          have H7 := Lib.hid ho7
          clear ho6 ho7
          go_wp2_with (at_builtin; refine wpList_pair2 rfl (.tmp 34) (.tmp 44) 22 30 rfl Try.underlying22 Try.info30 B u7 l7 rfl ho75a _ kk zz rfl ?_ (by omega) ?_ ?_; (have := heap_alloc_new (wr.alloc (.cells #[.string kk, .int .i64 vv] 30)) (.cells #[.string kk, .int .i64 zz] 30); simpa using this); (simp; omega); intro v7 w7 ho77 hc7 hb7)
          have ho67 : Ow w7 B 30 u6 l6 := by
            refine ⟨ho6a.1, ?_⟩
            rcases ho6a.2 with h' | ⟨g, cp, cur, hv, hbg, hg, r⟩
            · exact .inl h'
            · exact .inr ⟨g, cp, cur, hv, hbg, (hc7.block g (Array.getElem?_eq_some_iff.1 hg).1 (fun h' => hne.out g (by rw [hv]; rfl) h')).trans hg, r⟩
          have hne7 : ∀ k, u6.ownBlock = some k → v7.ownBlock ≠ some k := by
            intro k hk hk7
            have hk5 := (H6.out.own k hk).2
            rcases hb7 with e | e
            · rw [e] at hk7; exact hne.out k hk hk7
            · rw [hk7] at e
              have h2 : k = wr.heap.size + 1 + 1 := by simpa using e
              omega
          have hch7 : Ch (fun _ => False) w3 w7 := (hch.tr h3).trans hc7 (fun j hj h => by have := (H7.out.own j h).1; omega)
          have hz7 : B ≤ w7.heap.size := by have := hc7.size; simp at this; omega
          have HN7 := Lib.hid hne7
          clear hne7 hne ho75a hc7 hb7 ho6a h2 h3 hch hBz hc1 hc2
          go_wp2
          go_roundw
          case rel => exact ⟨ii + 1, by go_num, by omega, by rw [HE.out]; simpa using ho67, by rw [HM.out, HZ.out]; exact ho77, HN7, hch7, hz7⟩
          case measure => simp [intOf]; omega
      · have hlt' : (xs.length : Int) ≤ (ii : Int) := by omega
        rw [List.take_of_length_le (by omega)] at ho6 ho7
        have hlf : (xs.filter evenP).length ≤ 300 := by have := List.length_filter_le evenP xs; omega
        have hlm : (mapM xorP xs).length ≤ 300 := by unfold mapM; rw [List.length_map]; omega
        have hlt2 : (xs.take n.toNat).length ≤ 300 := by rw [List.length_take]; omega
        obtain ⟨l6, hl6⟩ : ∃ l, xs.filter evenP = l := ⟨_, rfl⟩
        obtain ⟨l7, hl7⟩ : ∃ l, mapM xorP xs = l := ⟨_, rfl⟩
        obtain ⟨xt, hxt⟩ : ∃ l, xs.take n.toNat = l := ⟨_, rfl⟩
        rw [hl6] at ho6 hlf
        rw [hl7] at ho7 hlm
        rw [hxt] at hlt2
        have HLL := Lib.hid (And.intro hlf (And.intro hlm (And.intro hlt2 (And.intro hl6 (And.intro hl7 hxt)))))
        clear hlf hlm hlt2 hl6 hl7 hxt
        obtain ⟨a6, c6, rfl, hr6, hb6, -⟩ := ho6.rd
        obtain ⟨a7, c7, rfl, hr7, hb7, -⟩ := ho7.rd
        have hf : ∀ V, Ch (fun _ => False) wr V → OfG b3 w2.heap.size v3 xs V ∧ Rd V a xs ∧ Rd V a6 l6 ∧ Rd V a7 l7 ∧ Ch (fun _ => False) w V := fun V hV =>
          ⟨ofG_stab _ _ _ _ _ _ hg3 ((hch.tr hV).mono fun j _ h => h.elim), HR.out.keep ((hcw.tr hch).tr hV) (fun _ _ => id), hr6.keep hV (fun _ _ => id), hr7.keep hV (fun _ _ => id), (hcw.tr hch).tr hV⟩
        have HF := Lib.hid hf
        clear hf hr6 hr7 hb6 hb7 ho6 ho7 hne hch hg3 hcw hBz hBw hwB
        go_wp2_with fail
        refine (only_any _ _ _ _ _ _ _ _ rfl rfl wr).mono ?_
        rintro e w4 ⟨rfl, hk4, hs4, hc4, -⟩
        unfold onlyRun
        go_wp2_with fail
        refine (made_any _ _ _ _ _ _ _ _ rfl rfl w4).mono ?_
        rintro e w5 ⟨rfl, hm5, hs5, hc5, -⟩
        unfold madeRun
        have hf2 : ∀ V, Ch (fun _ => False) w5 V → (OfG b3 w2.heap.size v3 xs V ∧ Rd V a xs ∧ Rd V a6 l6 ∧ Rd V a7 l7 ∧ Ch (fun _ => False) w V) ∧ Boxed V (wr.heap.size + 1) 32 (.func (.func 13) #[] #[]) ∧ Boxed V wr.heap.size 25 (ofRun b3) ∧ Boxed V w4.heap.size 25 (ofRun b3) ∧ Boxed V (w4.heap.size + 1) 34 (.func (.func 15) #[] #[]) := fun V hV =>
          ⟨HF.out V ((hc4.tr hc5).tr hV), (hc5.tr hV).boxed hk4 id, (hc5.tr hV).boxed hs4 id, hV.boxed hs5 id, hV.boxed hm5 id⟩
        have HF2 := Lib.hid hf2
        clear hf2 HF hk4 hs4 hc4 hm5 hs5 hc5
        go_wp2_with fail
        -- all, and once more
        refine (list_of b3 _ v3 xs hl w5 (HF2.out w5 (Ch.refl _ _)).1.1).mono ?_
        rintro e wa ⟨va, rfl, hoa, hca⟩
        obtain ⟨aa, ka, rfl, hra, -⟩ := hoa.rd
        clear hoa
        have fa := HF2.out wa hca
        go_wp2_with fail
        refine (same_any _ _ _ _ xs (by omega) wa hra fa.1.2.1).mono ?_
        rintro e wb ⟨rfl, hcb⟩
        have hVb := hca.tr hcb
        clear hra fa hca hcb
        go_wp2_with fail
        refine (list_of b3 _ v3 xs hl wb (HF2.out wb hVb).1.1).mono ?_
        rintro e wc ⟨vc, rfl, hoc, hcc⟩
        obtain ⟨ac, kc, rfl, hrc, -⟩ := hoc.rd
        clear hoc
        have hVc := hVb.tr hcc
        have fc := HF2.out wc hVc
        clear hVb hcc
        go_wp2_with fail
        refine (same_any _ _ _ _ xs (by omega) wc hrc fc.1.2.1).mono ?_
        rintro e wd ⟨rfl, hcd⟩
        have hVd := hVc.tr hcd
        clear hrc fc hVc hcd
        go_wp2_with fail
        -- the head
        refine (head_any _ _ _ _ rfl n wd).mono ?_
        rintro e wf ⟨rfl, hnf, hsf, hcf, -⟩
        unfold headRun
        have hVf := hVd.tr hcf
        have ff := HF2.out wf hVf
        clear hVd hcf
        go_wp2_with fail
        refine (list_head b3 _ v3 xs hl n HN.out _ _ wf ff.1.1 hnf hsf).mono ?_
        rintro e wg ⟨vg, rfl, hog, hcg⟩
        rw [HLL.out.2.2.2.2.2] at hog
        have hVg := hVf.tr hcg
        have fg := HF2.out wg hVg
        clear hVf hcg ff hnf hsf
        obtain ⟨ag, kg, rfl, hrg, -⟩ := hog.rd
        clear hog
        go_wp2_with fail
        refine (rhead_any a cap xs (by omega) n wg fg.1.2.1).mono ?_
        rintro e wh ⟨vh, rfl, hoh, hch⟩
        rw [HLL.out.2.2.2.2.2] at hoh
        obtain ⟨ah, kh, rfl, hrh, -⟩ := hoh.rd
        have hrg' := hrg.keep hch (fun _ _ => id)
        have hVh := hVg.tr hch
        clear hoh hrg hVg fg hch
        go_wp2_with fail
        refine (same_any _ _ _ _ xt (by have := HLL.out.2.2.1; omega) wh hrg' hrh).mono ?_
        rintro e wi ⟨rfl, hci⟩
        have hVi := hVh.tr hci
        have fi := HF2.out wi hVi
        clear hrh hrg' hVh hci
        go_wp2_with fail
        -- what is kept
        refine (list_even b3 _ v3 xs hl _ _ wi fi.1.1 fi.2.1 fi.2.2.1).mono ?_
        rintro e wj ⟨vj, rfl, hoj, hcj⟩
        rw [HLL.out.2.2.2.1] at hoj
        have hVj := hVi.tr hcj
        have fj := HF2.out wj hVj
        obtain ⟨aj, kj, rfl, hrj, -⟩ := hoj.rd
        clear hoj hVi hcj fi
        go_wp2_with fail
        refine (same_any _ _ _ _ _ (by have := HLL.out.1; omega) wj hrj fj.1.2.2.1).mono ?_
        rintro e wk ⟨rfl, hck⟩
        have hVk := hVj.tr hck
        have fk := HF2.out wk hVk
        clear hrj hVj hck fj
        go_wp2_with fail
        -- what is made
        refine (list_other b3 _ v3 xs hl _ _ wk fk.1.1 fk.2.2.2.1 fk.2.2.2.2).mono ?_
        rintro e wl ⟨vl, rfl, hol, hcl⟩
        rw [HLL.out.2.2.2.2.1] at hol
        have hVl := hVk.tr hcl
        have fl := HF2.out wl hVl
        obtain ⟨al, kl, rfl, hrl, -⟩ := hol.rd
        clear hol hVk hcl fk
        go_wp2_with fail
        refine (same_any _ _ _ _ _ (by have := HLL.out.2.1; omega) wl hrl fl.1.2.2.2.1).mono ?_
        rintro e wm ⟨rfl, hcm⟩
        have hVm := hVl.tr hcm
        have fm := HF2.out wm hVm
        clear hrl hVl hcm fl
        go_wp2_with fail
        -- whether it rises
        refine (rises_of b3 _ v3 xs hl wm fm.1.1).mono ?_
        rintro e wn ⟨rfl, hcn⟩
        have hVn := hVm.tr hcn
        have fn := HF2.out wn hVn
        clear hVm hcn fm
        go_wp2_with fail
        refine (rrises_any a cap xs (by omega) wn fn.1.2.1).mono ?_
        rintro e wo ⟨rfl, hco⟩
        have hcW := (HF2.out wo (hVn.tr hco)).1.2.2.2.2
        clear fn hVn hco HF2 HLL
        generalize riseN xs xs.length = rb
        go_wp2
        go_ret
        exact ⟨by simp, hcW⟩
  · have hi : 300 < (xs.length : Int) := by omega
    go_enter Try.func3, Try.ntmps3
    go_wp2_with fail
    refine (awake_any w).mono ?_
    rintro e w1 ⟨rfl, hc1⟩
    go_wp2_with fail
    go_ret
    exact ⟨rfl, hc1⟩
end Go.Proofs.Ytlgamaldngkdnaa
