/- The walks of the document's number and Read. -/
import Derived.Test.YtmlllgcmhapadaaDoorCodec
namespace Go.Proofs.YtmlllgcmhapadaaDoor
open Go Go.RowKit
attribute [-go_sem] Builtin.append_

set_option maxRecDepth 100000 in
set_option maxHeartbeats 1000000 in
theorem number_any (s : ByteArray) (hs : 8 ≤ s.size) (w : World) :
    Calls Tryd.prog 38 #[.string s] w fun e w' => e = .returned (.int .u64 (numL (s.data.toList.take 8) : Nat)) ∧ w = w' := by
  go_enter Tryd.func38, Tryd.ntmps38
  go_wp2
  go_loop [3, 4] (fun x i => ∃ (ii n : Nat), i = .int .i64 (ii : Int) ∧ ii ≤ 8 ∧ x = .int .u64 (n : Int) ∧ Hid (n = numL (s.data.toList.take ii))) (fun _ i => 8 - (intOf i).toNat)
  case atStart => exact ⟨0, 0, rfl, Nat.zero_le _, rfl, Lib.hid rfl⟩
  case round =>
    obtain ⟨ii, n, rfl, hi, rfl, hn⟩ := hrel
    by_cases hlt : ii < 8
    · have hlt' : (ii : Int) < 8 := by omega
      have hi0 : (0 : Int) ≤ (ii : Int) := by omega
      have hi1 : ii < s.size := by omega
      have hb := numL_lt (s.data.toList.take ii) 7 (by rw [List.length_take]; omega)
      have hsn : numL (s.data.toList.take (ii + 1)) = n * 256 + s[ii].toNat := by rw [take_snoc' s ii hi1, numL_snoc, ← hn.out]
      rw [← hn.out] at hb
      have HS := Lib.hid hsn
      have e0 : s[ii]? = some s[ii] := getElem?_pos s ii hi1
      have r0 := run_index s .i64 (ii : Int) ii rfl s[ii] e0
      generalize s[ii] = bk at HS r0 e0 hsn
      clear hsn hn e0
      have hbb : bk.toNat < 256 := bk.toNat_lt
      have hb' : (n : Int) ≤ 72057594037927935 := by omega
      have hb0 : (0 : Int) ≤ (n : Int) := by omega
      have hk0 : (0 : Int) ≤ (bk.toNat : Int) := by omega
      have hk1 : (bk.toNat : Int) ≤ 255 := by omega
      have hw : IntKind.u64.wrap (bk.toNat : Int) = (bk.toNat : Int) := wrapU_in _ (by omega) (by omega)
      have hw2 : IntKind.u64.wrap ((n : Int) * 256) = (n : Int) * 256 := wrapU_in _ (by omega) (by omega)
      have hw3 : IntKind.u64.wrap ((n : Int) * 256 + (bk.toNat : Int)) = (n : Int) * 256 + (bk.toNat : Int) := wrapU_in _ (by omega) (by omega)
      clear hb
      go_wp2
      go_round
      case rel => exact ⟨ii + 1, n * 256 + bk.toNat, by go_num, by omega, by go_num, Lib.hid HS.out.symm⟩
      case measure => simp [intOf]; omega
    · obtain rfl : ii = 8 := by omega
      have HN := Lib.hid (And.intro hn.out True.intro)
      clear hn
      go_wp2
      go_ret
      exact ⟨by rw [← HN.out.1]; rfl, rfl⟩
theorem step_true {cut : List UInt8 → Option (V × List UInt8)} {f : Nat} {acc : List V} {s q : List UInt8} {v : V} (hs : s ≠ []) (hc : cut s = if rightB v = true then some (v, q) else none) (ht : tupleB (acc ++ [v]) = true) :
    readK cut (f + 1) acc s = readK cut f (acc ++ [v]) q := by
  have hp := tuple_parts ht
  have hr : rightB v = true := by have := hp.2; rw [List.all_append, Bool.and_eq_true] at this; simpa using this.2
  rw [if_pos hr] at hc
  exact readK_more cut f acc s hs v q hc (by have := hp.1; rw [List.length_append] at this; simp at this; omega)
theorem step_false {cut : List UInt8 → Option (V × List UInt8)} {f : Nat} {acc : List V} {s q : List UInt8} {v : V} (hs : s ≠ []) (hc : cut s = if rightB v = true then some (v, q) else none) (ht : tupleB (acc ++ [v]) = false) (ha : tupleB acc = true) :
    readK cut (f + 1) acc s = none := by
  have hp := tuple_parts ha
  by_cases hr : rightB v = true
  · rw [if_pos hr] at hc
    refine readK_full cut f acc s hs (v, q) hc ?_
    unfold tupleB at ht
    rw [List.all_append, hp.2, List.length_append] at ht
    simp [hr] at ht
    omega
  · rw [if_neg hr] at hc
    exact readK_none cut f acc s hs hc
theorem rightB_text (k : Int) (hk : k = 3 ∨ k = 4) (l : List UInt8) : rightB ⟨k, 0, txt l⟩ = decide (l.length ≤ 1000) := by
  have : (txt l).size = l.length := rfl
  rcases hk with rfl | rfl <;> simp [rightB, this]
theorem rightB_bool (b : UInt8) : rightB ⟨2, b.toNat, emp⟩ = decide (b.toNat ≤ 1) := by
  have : emp.size = 0 := rfl
  simp only [rightB, this]
  rw [Bool.eq_iff_iff]
  simp
  omega
theorem vrowAt (W : World) (i : Nat) (hi : W.heap.size = i) (y : V) : (W.alloc (.cells #[.int .i64 y.k, .int .i64 y.n, .string y.s] 23)).heap[i]? = some (.cells #[.int .i64 y.k, .int .i64 y.n, .string y.s] 23 (0, 0)) := by
  subst hi
  exact heap_alloc_new W _
theorem cutW_bool (r : List UInt8) (b : UInt8) : cutW (2 :: b :: r) = if rightB ⟨2, b.toNat, emp⟩ = true then some (⟨2, b.toNat, emp⟩, r) else none := by
  rw [rightB_bool]
  show (if b.toNat ≤ 1 then some ((⟨2, b.toNat, emp⟩ : V), r) else none) = _
  by_cases h : b.toNat ≤ 1
  · rw [if_pos h, decide_eq_true h, if_pos rfl]
  · rw [if_neg h, decide_eq_false h, if_neg Bool.false_ne_true]
theorem cutW_txt (k : UInt8) (hk : k = 3 ∨ k = 4) (b0 b1 : UInt8) (q : List UInt8) (h : b0.toNat * 256 + b1.toNat ≤ q.length) :
    cutW (k :: b0 :: b1 :: q) = if rightB ⟨k.toNat, 0, txt (q.take (b0.toNat * 256 + b1.toNat))⟩ = true then some (⟨k.toNat, 0, txt (q.take (b0.toNat * 256 + b1.toNat))⟩, q.drop (b0.toNat * 256 + b1.toNat)) else none := by
  have hk' : ((k.toNat : Nat) : Int) = 3 ∨ ((k.toNat : Nat) : Int) = 4 := by rcases hk with rfl | rfl <;> simp
  rw [cutW_text k hk, rightB_text _ hk', List.length_take, Nat.min_eq_left h]
  by_cases h2 : b0.toNat * 256 + b1.toNat ≤ 1000
  · rw [if_pos ⟨h2, h⟩, decide_eq_true h2, if_pos rfl]
  · rw [if_neg (fun h3 => h2 h3.1), decide_eq_false h2, if_neg Bool.false_ne_true]

set_option maxRecDepth 100000 in
set_option maxHeartbeats 8000000 in
theorem rread_any (s0 : ByteArray) (hm : s0.size ≤ 1000000) (w : World) :
    Calls Tryd.prog 22 #[.string s0] w (ReadP (readAll cutW s0.data.toList) w) := by
  go_enter Tryd.func22, Tryd.ntmps22
  go_wp2
  go_loopw [0, 4] (fun s v wr => ∃ (c : List UInt8) (acc : List V) (fu : Nat), s = .string (txt c) ∧ OwV wr w.heap.size v acc ∧ Hid (tupleB acc = true) ∧ c.length ≤ 1000000 ∧ c.length < fu ∧ Hid (readK cutW fu acc c = readAll cutW s0.data.toList) ∧ Ch (fun _ => False) w wr) (fun s _ _ => strLen s)
  case atStart => exact ⟨s0.data.toList, [], _, rfl, OwV.nil _ _, Lib.hid rfl, by rw [size_data]; exact hm, Nat.lt_succ_self _, Lib.hid rfl, Ch.refl _ _⟩
  case round =>
    obtain ⟨c, acc, fu, rfl, ho, HA, hcl, hfu, hu, hch⟩ := hrel
    have hz := hch.size
    obtain ⟨oa, ocap, rfl⟩ := ho.form
    obtain ⟨fu, rfl⟩ : ∃ n, fu = n + 1 := ⟨fu - 1, by omega⟩
    have hal : acc.length ≤ 64 := (tuple_parts HA.out).1
    cases c with
    | nil =>
      have HF : Hid (readAll cutW s0.data.toList = some acc) := Lib.hid (by rw [← hu.out, readK_nil])
      have hs0 : (txt []).size = 0 := rfl
      go_wp2
      go_ret2
      exact ⟨.inl ⟨acc, _, HF.out, rfl, ho⟩, hch.new⟩
    | cons b r =>
      have hrl : r.length ≤ 1000000 := by simp at hcl; omega
      have e0 : (txt (b :: r))[0]? = Option.some b := get_of_data _ 0 rfl
      have r0 := run_index (txt (b :: r)) .i64 0 0 rfl b e0
      have x1 := ext1 b r
      have hS : 0 < ((txt (b :: r)).size : Int) := by rw [txt_size]; simp
      have hS1 : (1 : Int) ≤ ((txt (b :: r)).size : Int) := by rw [txt_size]; simp; omega
      have HSz := Lib.hid (txt_size (b :: r))
      have Hrl : Hid ((b :: r).length < fu + 1) := Lib.hid hfu
      have Hns : Hid (b :: r ≠ []) := Lib.hid (by simp)
      clear e0 hcl hfu
      by_cases h0 : b = 0
      · subst h0
        have HCut : Hid (cutW (0 :: r) = if rightB ⟨0, 0, ⟨#[]⟩⟩ = true then some (⟨0, 0, ⟨#[]⟩⟩, r) else none) := Lib.hid (by rfl)
        obtain ⟨zs, hzs⟩ : ∃ zs, acc ++ [(⟨0, 0, ⟨#[]⟩⟩ : V)] = zs := ⟨_, rfl⟩
        have HZ := Lib.hid hzs
        clear hzs
        generalize txt (0 :: r) = S at r0 x1 hS hS1 HSz
        cases ht : tupleB zs with
        | true =>
          have HU : Hid (readK cutW fu zs (r) = readAll cutW s0.data.toList) := Lib.hid (by rw [← hu.out, step_true Hns.out HCut.out (by rw [HZ.out]; exact ht), HZ.out])
          have HQ : Hid ((r).length ≤ 1000000 ∧ (r).length < fu ∧ (r).length < S.size) := Lib.hid (by have h9 := HSz.out; have h8 := Hrl.out; simp only [List.length_cons] at h8 h9; omega)
          have HTt := Lib.hid ht
          clear ht hu
          go_wp2_with (first | (at_builtin; refine wpList_val rfl (.tmp 70) (.tmp 72) rfl w.heap.size (.slice oa acc.length ocap) acc rfl (ho.keep ((Ch.alloc (fun _ => False) _ _).tr (Ch.alloc _ _ _)) (fun _ _ => id)) (wr.heap.size + 1) ⟨0, 0, ⟨#[]⟩⟩ rfl (vrow2 _ _ ⟨0, 0, ⟨#[]⟩⟩) (by omega) (by simp; omega) ?_; intro v2 w2 ho3 hg3; have hch2 : Ch (fun _ => False) w w2 := ((hch.tr (Ch.alloc _ _ _)).tr (Ch.alloc _ _ _)).trans hg3 (fun j hj h => absurd (ho.own j h).1 (by omega)); rw [HZ.out] at ho3; clear hg3; obtain ⟨a3, c3, rfl, hr3, -, -⟩ := ho3.rd) | (go_at_call 33; refine (rtuple_any a3 c3 zs w2 hr3).mono ?_; rw [HTt.out]; rintro e w3 ⟨rfl, hb3⟩))
          have hch3 := hch2.tr (Ch.of_new hb3)
          have ho4 := ho3.new hb3
          clear hb3 hch2 ho3 hr3 ho hch
          go_wp2
          go_roundw
          case rel => exact ⟨r, zs, fu, rfl, ho4, HTt, HQ.out.1, HQ.out.2.1, HU, hch3⟩
          case measure => exact HQ.out.2.2
        | false =>
          have HU : Hid (readAll cutW s0.data.toList = none) := Lib.hid (by rw [← hu.out, step_false Hns.out HCut.out (by rw [HZ.out]; exact ht) HA.out])
          have HTt := Lib.hid ht
          clear ht hu
          go_wp2_with (first | (at_builtin; refine wpList_val rfl (.tmp 70) (.tmp 72) rfl w.heap.size (.slice oa acc.length ocap) acc rfl (ho.keep ((Ch.alloc (fun _ => False) _ _).tr (Ch.alloc _ _ _)) (fun _ _ => id)) (wr.heap.size + 1) ⟨0, 0, ⟨#[]⟩⟩ rfl (vrow2 _ _ ⟨0, 0, ⟨#[]⟩⟩) (by omega) (by simp; omega) ?_; intro v2 w2 ho3 hg3; have hch2 : Ch (fun _ => False) w w2 := ((hch.tr (Ch.alloc _ _ _)).tr (Ch.alloc _ _ _)).trans hg3 (fun j hj h => absurd (ho.own j h).1 (by omega)); rw [HZ.out] at ho3; clear hg3; obtain ⟨a3, c3, rfl, hr3, -, -⟩ := ho3.rd) | (go_at_call 33; refine (rtuple_any a3 c3 zs w2 hr3).mono ?_; rw [HTt.out]; rintro e w3 ⟨rfl, hb3⟩))
          go_wp2
          go_ret2
          exact ⟨.inr ⟨HU.out, rfl⟩, (hch2.tr (Ch.of_new hb3)).new⟩
      by_cases h1 : b = 1
      · subst h1
        by_cases hl : r.length < 8
        · have HF : Hid (readAll cutW s0.data.toList = none) := Lib.hid (by rw [← hu.out, readK_none cutW fu acc _ Hns.out (by simp [cutW, hl])])
          have hl' : ((txt r).size : Int) < 8 := by rw [txt_size]; omega
          generalize txt (1 :: r) = S at r0 x1 hS hS1 HSz
          generalize txt r = T at x1 hl'
          go_wp2
          go_ret2
          exact ⟨.inr ⟨HF.out, rfl⟩, (hch.tr (Ch.alloc _ _ _)).new⟩
        · have hn := numL_lt (r.take 8) 8 (by rw [List.length_take]; omega)
          have hw := toI_wrap (numL (r.take 8)) (by omega)
          have HN := Lib.hid (number_any (txt r) (by rw [txt_size]; omega))
          rw [txt_data] at HN
          have x8 : (txt r).extract 8 (txt r).size = txt (r.drop 8) := end_txt _ _
          have hl' : (8 : Int) ≤ ((txt r).size : Int) := by rw [txt_size]; omega
          have HCut0 : Hid (cutW (1 :: r) = some (⟨1, toI (numL (r.take 8)), ⟨#[]⟩⟩, r.drop 8)) := Lib.hid (by simp [cutW, hl]; rfl)
          generalize numL (r.take 8) = N at HN hw hn HCut0
          generalize toI N = Z at hw HCut0
          clear hn
          generalize txt r = T at x1 x8 hl' HN
          have HCut : Hid (cutW (1 :: r) = if rightB ⟨1, Z, ⟨#[]⟩⟩ = true then some (⟨1, Z, ⟨#[]⟩⟩, r.drop 8) else none) := Lib.hid (by rw [HCut0.out]; rfl)
          obtain ⟨zs, hzs⟩ : ∃ zs, acc ++ [(⟨1, Z, ⟨#[]⟩⟩ : V)] = zs := ⟨_, rfl⟩
          have HZ := Lib.hid hzs
          clear hzs
          generalize txt (1 :: r) = S at r0 x1 hS hS1 HSz
          cases ht : tupleB zs with
          | true =>
            have HU : Hid (readK cutW fu zs (r.drop 8) = readAll cutW s0.data.toList) := Lib.hid (by rw [← hu.out, step_true Hns.out HCut.out (by rw [HZ.out]; exact ht), HZ.out])
            have HQ : Hid ((r.drop 8).length ≤ 1000000 ∧ (r.drop 8).length < fu ∧ (r.drop 8).length < S.size) := Lib.hid (by have h9 := HSz.out; have h8 := Hrl.out; simp only [List.length_cons] at h8 h9; rw [List.length_drop]; omega)
            have HTt := Lib.hid ht
            clear ht hu
            go_wp2_with (first | (go_at_call 38; (with_reducible refine (HN.out _).mono ?_); rintro e w1 ⟨rfl, rfl⟩) | (at_builtin; refine wpList_val rfl (.tmp 70) (.tmp 72) rfl w.heap.size (.slice oa acc.length ocap) acc rfl (ho.keep ((Ch.alloc (fun _ => False) _ _).tr (Ch.alloc _ _ _)) (fun _ _ => id)) (wr.heap.size + 1) ⟨1, Z, ⟨#[]⟩⟩ rfl (vrow2 _ _ ⟨1, Z, ⟨#[]⟩⟩) (by omega) (by simp; omega) ?_; intro v2 w2 ho3 hg3; have hch2 : Ch (fun _ => False) w w2 := ((hch.tr (Ch.alloc _ _ _)).tr (Ch.alloc _ _ _)).trans hg3 (fun j hj h => absurd (ho.own j h).1 (by omega)); rw [HZ.out] at ho3; clear hg3; obtain ⟨a3, c3, rfl, hr3, -, -⟩ := ho3.rd) | (go_at_call 33; refine (rtuple_any a3 c3 zs w2 hr3).mono ?_; rw [HTt.out]; rintro e w3 ⟨rfl, hb3⟩))
            have hch3 := hch2.tr (Ch.of_new hb3)
            have ho4 := ho3.new hb3
            clear hb3 hch2 ho3 hr3 ho hch
            go_wp2
            go_roundw
            case rel => exact ⟨r.drop 8, zs, fu, rfl, ho4, HTt, HQ.out.1, HQ.out.2.1, HU, hch3⟩
            case measure => exact HQ.out.2.2
          | false =>
            have HU : Hid (readAll cutW s0.data.toList = none) := Lib.hid (by rw [← hu.out, step_false Hns.out HCut.out (by rw [HZ.out]; exact ht) HA.out])
            have HTt := Lib.hid ht
            clear ht hu
            go_wp2_with (first | (go_at_call 38; (with_reducible refine (HN.out _).mono ?_); rintro e w1 ⟨rfl, rfl⟩) | (at_builtin; refine wpList_val rfl (.tmp 70) (.tmp 72) rfl w.heap.size (.slice oa acc.length ocap) acc rfl (ho.keep ((Ch.alloc (fun _ => False) _ _).tr (Ch.alloc _ _ _)) (fun _ _ => id)) (wr.heap.size + 1) ⟨1, Z, ⟨#[]⟩⟩ rfl (vrow2 _ _ ⟨1, Z, ⟨#[]⟩⟩) (by omega) (by simp; omega) ?_; intro v2 w2 ho3 hg3; have hch2 : Ch (fun _ => False) w w2 := ((hch.tr (Ch.alloc _ _ _)).tr (Ch.alloc _ _ _)).trans hg3 (fun j hj h => absurd (ho.own j h).1 (by omega)); rw [HZ.out] at ho3; clear hg3; obtain ⟨a3, c3, rfl, hr3, -, -⟩ := ho3.rd) | (go_at_call 33; refine (rtuple_any a3 c3 zs w2 hr3).mono ?_; rw [HTt.out]; rintro e w3 ⟨rfl, hb3⟩))
            go_wp2
            go_ret2
            exact ⟨.inr ⟨HU.out, rfl⟩, (hch2.tr (Ch.of_new hb3)).new⟩
      by_cases h2 : b = 2
      · subst h2
        cases r with
        | nil =>
          have HF : Hid (readAll cutW s0.data.toList = none) := Lib.hid (by rw [← hu.out, readK_none cutW fu acc _ Hns.out (by rfl)])
          have hl' : ((txt []).size : Int) < 1 := by decide
          generalize txt [2] = S at r0 x1 hS hS1 HSz
          generalize txt [] = T at x1 hl'
          go_wp2
          go_ret2
          exact ⟨.inr ⟨HF.out, rfl⟩, (hch.tr (Ch.alloc _ _ _)).new⟩
        | cons d q =>
          have d0 : (txt (d :: q))[0]? = Option.some d := get_of_data _ 0 rfl
          have s0' := run_index (txt (d :: q)) .i64 0 0 rfl d d0
          have y1 := ext1 d q
          have hl' : (1 : Int) ≤ ((txt (d :: q)).size : Int) := by rw [txt_size]; simp; omega
          clear d0
          have kd : d.toNat < 256 := d.toNat_lt
          have kw : IntKind.i64.wrap (d.toNat : Int) = (d.toNat : Int) := IntWalk.i64_in _ (by omega)
          have hq9 : q.length ≤ 1000000 := by simp at hrl; omega
          generalize txt (d :: q) = T at x1 s0' y1 hl'
          have HCut : Hid (cutW (2 :: d :: q) = if rightB ⟨2, (d.toNat : Int), ⟨#[]⟩⟩ = true then some (⟨2, (d.toNat : Int), ⟨#[]⟩⟩, q) else none) := Lib.hid (cutW_bool q d)
          obtain ⟨zs, hzs⟩ : ∃ zs, acc ++ [(⟨2, (d.toNat : Int), ⟨#[]⟩⟩ : V)] = zs := ⟨_, rfl⟩
          have HZ := Lib.hid hzs
          clear hzs
          generalize txt (2 :: d :: q) = S at r0 x1 hS hS1 HSz
          cases ht : tupleB zs with
          | true =>
            have HU : Hid (readK cutW fu zs (q) = readAll cutW s0.data.toList) := Lib.hid (by rw [← hu.out, step_true Hns.out HCut.out (by rw [HZ.out]; exact ht), HZ.out])
            have HQ : Hid ((q).length ≤ 1000000 ∧ (q).length < fu ∧ (q).length < S.size) := Lib.hid (by have h9 := HSz.out; have h8 := Hrl.out; simp only [List.length_cons] at h8 h9; omega)
            have HTt := Lib.hid ht
            clear ht hu
            go_wp2_with (first | (at_builtin; refine wpList_val rfl (.tmp 70) (.tmp 72) rfl w.heap.size (.slice oa acc.length ocap) acc rfl (ho.keep ((Ch.alloc (fun _ => False) _ _).tr (Ch.alloc _ _ _)) (fun _ _ => id)) (wr.heap.size + 1) ⟨2, (d.toNat : Int), ⟨#[]⟩⟩ rfl (vrow2 _ _ ⟨2, (d.toNat : Int), ⟨#[]⟩⟩) (by omega) (by simp; omega) ?_; intro v2 w2 ho3 hg3; have hch2 : Ch (fun _ => False) w w2 := ((hch.tr (Ch.alloc _ _ _)).tr (Ch.alloc _ _ _)).trans hg3 (fun j hj h => absurd (ho.own j h).1 (by omega)); rw [HZ.out] at ho3; clear hg3; obtain ⟨a3, c3, rfl, hr3, -, -⟩ := ho3.rd) | (go_at_call 33; refine (rtuple_any a3 c3 zs w2 hr3).mono ?_; rw [HTt.out]; rintro e w3 ⟨rfl, hb3⟩))
            have hch3 := hch2.tr (Ch.of_new hb3)
            have ho4 := ho3.new hb3
            clear hb3 hch2 ho3 hr3 ho hch
            go_wp2
            go_roundw
            case rel => exact ⟨q, zs, fu, rfl, ho4, HTt, HQ.out.1, HQ.out.2.1, HU, hch3⟩
            case measure => exact HQ.out.2.2
          | false =>
            have HU : Hid (readAll cutW s0.data.toList = none) := Lib.hid (by rw [← hu.out, step_false Hns.out HCut.out (by rw [HZ.out]; exact ht) HA.out])
            have HTt := Lib.hid ht
            clear ht hu
            go_wp2_with (first | (at_builtin; refine wpList_val rfl (.tmp 70) (.tmp 72) rfl w.heap.size (.slice oa acc.length ocap) acc rfl (ho.keep ((Ch.alloc (fun _ => False) _ _).tr (Ch.alloc _ _ _)) (fun _ _ => id)) (wr.heap.size + 1) ⟨2, (d.toNat : Int), ⟨#[]⟩⟩ rfl (vrow2 _ _ ⟨2, (d.toNat : Int), ⟨#[]⟩⟩) (by omega) (by simp; omega) ?_; intro v2 w2 ho3 hg3; have hch2 : Ch (fun _ => False) w w2 := ((hch.tr (Ch.alloc _ _ _)).tr (Ch.alloc _ _ _)).trans hg3 (fun j hj h => absurd (ho.own j h).1 (by omega)); rw [HZ.out] at ho3; clear hg3; obtain ⟨a3, c3, rfl, hr3, -, -⟩ := ho3.rd) | (go_at_call 33; refine (rtuple_any a3 c3 zs w2 hr3).mono ?_; rw [HTt.out]; rintro e w3 ⟨rfl, hb3⟩))
            go_wp2
            go_ret2
            exact ⟨.inr ⟨HU.out, rfl⟩, (hch2.tr (Ch.of_new hb3)).new⟩
      by_cases h3 : b = 3
      · subst h3
        match r, hrl, x1, HSz, Hrl, Hns, hu, r0, hS, hS1 with
        | [], _, x1, HSz, Hrl, Hns, hu, r0, hS, hS1 =>
          have HF : Hid (readAll cutW s0.data.toList = none) := Lib.hid (by rw [← hu.out, readK_none cutW fu acc _ Hns.out (by rfl)])
          have hl' : ((txt []).size : Int) < 2 := by decide
          generalize txt [3] = S at r0 x1 hS hS1 HSz
          generalize txt [] = T at x1 hl'
          go_wp2
          go_ret2
          exact ⟨.inr ⟨HF.out, rfl⟩, (hch.tr (Ch.alloc _ _ _)).new⟩
        | [d], _, x1, HSz, Hrl, Hns, hu, r0, hS, hS1 =>
          have HF : Hid (readAll cutW s0.data.toList = none) := Lib.hid (by rw [← hu.out, readK_none cutW fu acc _ Hns.out (by rfl)])
          have hl' : ((txt [d]).size : Int) < 2 := by rw [txt_size]; simp
          generalize txt [3, d] = S at r0 x1 hS hS1 HSz
          generalize txt [d] = T at x1 hl'
          go_wp2
          go_ret2
          exact ⟨.inr ⟨HF.out, rfl⟩, (hch.tr (Ch.alloc _ _ _)).new⟩
        | d0 :: d1 :: q, hrl, x1, HSz, Hrl, Hns, hu, r0, hS, hS1 =>
          have g0 : (txt (d0 :: d1 :: q))[0]? = Option.some d0 := get_of_data _ 0 rfl
          have g1 : (txt (d0 :: d1 :: q))[1]? = Option.some d1 := get_of_data _ 1 rfl
          have t0 := run_index (txt (d0 :: d1 :: q)) .i64 0 0 rfl d0 g0
          have t1 := run_index (txt (d0 :: d1 :: q)) .i64 1 1 rfl d1 g1
          have k0 : d0.toNat < 256 := d0.toNat_lt
          have k1 : d1.toNat < 256 := d1.toNat_lt
          have hTz : ((txt (d0 :: d1 :: q)).size : Int) = (q.length : Int) + 2 := by rw [txt_size]; simp; omega
          have HTz := Lib.hid hTz
          have hq1 : q.length ≤ 1000000 := by simp at hrl; omega
          have hl' : (2 : Int) ≤ ((txt (d0 :: d1 :: q)).size : Int) := by omega
          have z1 : IntKind.i64.wrap ((d0.toNat : Int) * 256) = (d0.toNat : Int) * 256 := IntWalk.i64_in _ (by omega)
          have z2 : IntKind.i64.wrap ((d0.toNat : Int) * 256 + (d1.toNat : Int)) = ((d0.toNat * 256 + d1.toNat : Nat) : Int) := by rw [IntWalk.i64_in _ (by omega)]; omega
          have HCx := Lib.hid (cutW_txt 3 (.inl rfl) d0 d1 q)
          have HCn := Lib.hid (cutW_text 3 (.inl rfl) d0 d1 q)
          have xa0 : ∀ L : Nat, (txt (d0 :: d1 :: q)).extract 2 (2 + L) = txt (q.take L) := fun L => by rw [ext_txt, txt_data, show 2 + L - 2 = L by omega]; rfl
          have xb0 : ∀ L : Nat, (txt (d0 :: d1 :: q)).extract (2 + L) (txt (d0 :: d1 :: q)).size = txt (q.drop L) := fun L => by rw [end_txt, txt_data, Nat.add_comm 2 L]; rfl
          have kl : d0.toNat * 256 + d1.toNat ≤ 65535 := by omega
          clear g0 g1 hTz
          generalize d0.toNat * 256 + d1.toNat = L at z2 HCx HCn kl
          have xa := xa0 L
          have xb := xb0 L
          clear xa0 xb0
          have x3 : IntKind.i64.wrap (2 + (L : Int)) = 2 + (L : Int) := IntWalk.i64_in _ (by omega)
          by_cases hL : L ≤ q.length
          · have hL1 : 2 + (L : Int) ≤ ((txt (d0 :: d1 :: q)).size : Int) := by rw [HTz.out]; omega
            have hL2 : 2 + L ≤ (txt (d0 :: d1 :: q)).size := by omega
            have HCut0 := Lib.hid (HCx.out hL)
            generalize txt (d0 :: d1 :: q) = T at *
            generalize txt (q.take L) = T1 at xa HCut0
            have HCut : Hid (cutW (3 :: d0 :: d1 :: q) = if rightB ⟨3, 0, T1⟩ = true then some (⟨3, 0, T1⟩, q.drop L) else none) := Lib.hid (HCut0.out)
            obtain ⟨zs, hzs⟩ : ∃ zs, acc ++ [(⟨3, 0, T1⟩ : V)] = zs := ⟨_, rfl⟩
            have HZ := Lib.hid hzs
            clear hzs
            generalize txt (3 :: d0 :: d1 :: q) = S at r0 x1 hS hS1 HSz
            cases ht : tupleB zs with
            | true =>
              have HU : Hid (readK cutW fu zs (q.drop L) = readAll cutW s0.data.toList) := Lib.hid (by rw [← hu.out, step_true Hns.out HCut.out (by rw [HZ.out]; exact ht), HZ.out])
              have HQ : Hid ((q.drop L).length ≤ 1000000 ∧ (q.drop L).length < fu ∧ (q.drop L).length < S.size) := Lib.hid (by have h9 := HSz.out; have h8 := Hrl.out; simp only [List.length_cons] at h8 h9; rw [List.length_drop]; omega)
              have HTt := Lib.hid ht
              clear ht hu
              go_wp2_with fail
              go_quiet (fail)
              have HoW : Hid (∀ o, OwV ((((wr.alloc (.cells #[.int .i64 3, .int .i64 0, .string ⟨#[]⟩] 23)).drewN nq).setCell ⟨wr.heap.size, 2, none⟩ (.string T1)).alloc o) w.heap.size (.slice oa acc.length ocap) acc) := Lib.hid (fun o => ho.keep ((((Ch.alloc (fun k => wr.heap.size ≤ k) wr _).tr (Ch.drewN _ _ nq)).tr (Ch.setCell _ _ _ (fun _ => Nat.le_refl _))).tr (Ch.alloc _ _ o)) (fun k hk h => absurd (ho.own k hk).2 (by omega)))
              have HcW : Hid (∀ o, Ch (fun _ => False) w ((((wr.alloc (.cells #[.int .i64 3, .int .i64 0, .string ⟨#[]⟩] 23)).drewN nq).setCell ⟨wr.heap.size, 2, none⟩ (.string T1)).alloc o)) := Lib.hid (fun o => hch.trans ((((Ch.alloc (fun k => wr.heap.size ≤ k) wr _).tr (Ch.drewN _ _ nq)).tr (Ch.setCell _ _ _ (fun _ => Nat.le_refl _))).tr (Ch.alloc _ _ o)) (fun j hj h => by omega))
              have HzW : Hid ((((wr.alloc (.cells #[.int .i64 3, .int .i64 0, .string ⟨#[]⟩] 23)).drewN nq).setCell ⟨wr.heap.size, 2, none⟩ (.string T1)).heap.size = wr.heap.size + 1) := Lib.hid (by simp [World.setCell])
              go_wp2_with (first | (at_builtin; refine wpList_val rfl (.tmp 70) (.tmp 72) rfl w.heap.size (.slice oa acc.length ocap) acc rfl (HoW.out _) (wr.heap.size + 1) ⟨3, 0, T1⟩ rfl (vrowAt _ _ HzW.out ⟨3, 0, T1⟩) (by omega) (by simp; omega) ?_; intro v2 w2 ho3 hg3; have hch2 : Ch (fun _ => False) w w2 := (HcW.out _).trans hg3 (fun j hj h => absurd (ho.own j h).1 (by omega)); rw [HZ.out] at ho3; clear hg3; obtain ⟨a3, c3, rfl, hr3, -, -⟩ := ho3.rd) | (go_at_call 33; refine (rtuple_any a3 c3 zs w2 hr3).mono ?_; rw [HTt.out]; rintro e w3 ⟨rfl, hb3⟩))
              have hch3 := hch2.tr (Ch.of_new hb3)
              have ho4 := ho3.new hb3
              clear hb3 hch2 ho3 hr3 ho hch
              go_wp2
              go_roundw
              case rel => exact ⟨q.drop L, zs, fu, rfl, ho4, HTt, HQ.out.1, HQ.out.2.1, HU, hch3⟩
              case measure => exact HQ.out.2.2
            | false =>
              have HU : Hid (readAll cutW s0.data.toList = none) := Lib.hid (by rw [← hu.out, step_false Hns.out HCut.out (by rw [HZ.out]; exact ht) HA.out])
              have HTt := Lib.hid ht
              clear ht hu
              go_wp2_with fail
              go_quiet (fail)
              have HoW : Hid (∀ o, OwV ((((wr.alloc (.cells #[.int .i64 3, .int .i64 0, .string ⟨#[]⟩] 23)).drewN nq).setCell ⟨wr.heap.size, 2, none⟩ (.string T1)).alloc o) w.heap.size (.slice oa acc.length ocap) acc) := Lib.hid (fun o => ho.keep ((((Ch.alloc (fun k => wr.heap.size ≤ k) wr _).tr (Ch.drewN _ _ nq)).tr (Ch.setCell _ _ _ (fun _ => Nat.le_refl _))).tr (Ch.alloc _ _ o)) (fun k hk h => absurd (ho.own k hk).2 (by omega)))
              have HcW : Hid (∀ o, Ch (fun _ => False) w ((((wr.alloc (.cells #[.int .i64 3, .int .i64 0, .string ⟨#[]⟩] 23)).drewN nq).setCell ⟨wr.heap.size, 2, none⟩ (.string T1)).alloc o)) := Lib.hid (fun o => hch.trans ((((Ch.alloc (fun k => wr.heap.size ≤ k) wr _).tr (Ch.drewN _ _ nq)).tr (Ch.setCell _ _ _ (fun _ => Nat.le_refl _))).tr (Ch.alloc _ _ o)) (fun j hj h => by omega))
              have HzW : Hid ((((wr.alloc (.cells #[.int .i64 3, .int .i64 0, .string ⟨#[]⟩] 23)).drewN nq).setCell ⟨wr.heap.size, 2, none⟩ (.string T1)).heap.size = wr.heap.size + 1) := Lib.hid (by simp [World.setCell])
              go_wp2_with (first | (at_builtin; refine wpList_val rfl (.tmp 70) (.tmp 72) rfl w.heap.size (.slice oa acc.length ocap) acc rfl (HoW.out _) (wr.heap.size + 1) ⟨3, 0, T1⟩ rfl (vrowAt _ _ HzW.out ⟨3, 0, T1⟩) (by omega) (by simp; omega) ?_; intro v2 w2 ho3 hg3; have hch2 : Ch (fun _ => False) w w2 := (HcW.out _).trans hg3 (fun j hj h => absurd (ho.own j h).1 (by omega)); rw [HZ.out] at ho3; clear hg3; obtain ⟨a3, c3, rfl, hr3, -, -⟩ := ho3.rd) | (go_at_call 33; refine (rtuple_any a3 c3 zs w2 hr3).mono ?_; rw [HTt.out]; rintro e w3 ⟨rfl, hb3⟩))
              go_wp2
              go_ret2
              exact ⟨.inr ⟨HU.out, rfl⟩, (hch2.tr (Ch.of_new hb3)).new⟩
          · have hL1 : ((txt (d0 :: d1 :: q)).size : Int) < 2 + (L : Int) := by rw [HTz.out]; omega
            have HF : Hid (readAll cutW s0.data.toList = none) := Lib.hid (by rw [← hu.out, readK_none cutW fu acc _ Hns.out (by rw [HCn.out, if_neg (fun h => hL h.2)])])
            generalize txt (d0 :: d1 :: q) = T at *
            generalize txt (3 :: d0 :: d1 :: q) = S at r0 x1 hS hS1 HSz
            go_wp2_with fail
            go_quiet (fail)
            go_wp2
            go_ret2
            exact ⟨.inr ⟨HF.out, rfl⟩, ((hch.tr (Ch.alloc _ _ _)).tr (Ch.drewN _ _ nq)).new⟩
      by_cases h4 : b = 4
      · subst h4
        match r, hrl, x1, HSz, Hrl, Hns, hu, r0, hS, hS1 with
        | [], _, x1, HSz, Hrl, Hns, hu, r0, hS, hS1 =>
          have HF : Hid (readAll cutW s0.data.toList = none) := Lib.hid (by rw [← hu.out, readK_none cutW fu acc _ Hns.out (by rfl)])
          have hl' : ((txt []).size : Int) < 2 := by decide
          generalize txt [4] = S at r0 x1 hS hS1 HSz
          generalize txt [] = T at x1 hl'
          go_wp2
          go_ret2
          exact ⟨.inr ⟨HF.out, rfl⟩, (hch.tr (Ch.alloc _ _ _)).new⟩
        | [d], _, x1, HSz, Hrl, Hns, hu, r0, hS, hS1 =>
          have HF : Hid (readAll cutW s0.data.toList = none) := Lib.hid (by rw [← hu.out, readK_none cutW fu acc _ Hns.out (by rfl)])
          have hl' : ((txt [d]).size : Int) < 2 := by rw [txt_size]; simp
          generalize txt [4, d] = S at r0 x1 hS hS1 HSz
          generalize txt [d] = T at x1 hl'
          go_wp2
          go_ret2
          exact ⟨.inr ⟨HF.out, rfl⟩, (hch.tr (Ch.alloc _ _ _)).new⟩
        | d0 :: d1 :: q, hrl, x1, HSz, Hrl, Hns, hu, r0, hS, hS1 =>
          have g0 : (txt (d0 :: d1 :: q))[0]? = Option.some d0 := get_of_data _ 0 rfl
          have g1 : (txt (d0 :: d1 :: q))[1]? = Option.some d1 := get_of_data _ 1 rfl
          have t0 := run_index (txt (d0 :: d1 :: q)) .i64 0 0 rfl d0 g0
          have t1 := run_index (txt (d0 :: d1 :: q)) .i64 1 1 rfl d1 g1
          have k0 : d0.toNat < 256 := d0.toNat_lt
          have k1 : d1.toNat < 256 := d1.toNat_lt
          have hTz : ((txt (d0 :: d1 :: q)).size : Int) = (q.length : Int) + 2 := by rw [txt_size]; simp; omega
          have HTz := Lib.hid hTz
          have hq1 : q.length ≤ 1000000 := by simp at hrl; omega
          have hl' : (2 : Int) ≤ ((txt (d0 :: d1 :: q)).size : Int) := by omega
          have z1 : IntKind.i64.wrap ((d0.toNat : Int) * 256) = (d0.toNat : Int) * 256 := IntWalk.i64_in _ (by omega)
          have z2 : IntKind.i64.wrap ((d0.toNat : Int) * 256 + (d1.toNat : Int)) = ((d0.toNat * 256 + d1.toNat : Nat) : Int) := by rw [IntWalk.i64_in _ (by omega)]; omega
          have HCx := Lib.hid (cutW_txt 4 (.inr rfl) d0 d1 q)
          have HCn := Lib.hid (cutW_text 4 (.inr rfl) d0 d1 q)
          have xa0 : ∀ L : Nat, (txt (d0 :: d1 :: q)).extract 2 (2 + L) = txt (q.take L) := fun L => by rw [ext_txt, txt_data, show 2 + L - 2 = L by omega]; rfl
          have xb0 : ∀ L : Nat, (txt (d0 :: d1 :: q)).extract (2 + L) (txt (d0 :: d1 :: q)).size = txt (q.drop L) := fun L => by rw [end_txt, txt_data, Nat.add_comm 2 L]; rfl
          have kl : d0.toNat * 256 + d1.toNat ≤ 65535 := by omega
          clear g0 g1 hTz
          generalize d0.toNat * 256 + d1.toNat = L at z2 HCx HCn kl
          have xa := xa0 L
          have xb := xb0 L
          clear xa0 xb0
          have x3 : IntKind.i64.wrap (2 + (L : Int)) = 2 + (L : Int) := IntWalk.i64_in _ (by omega)
          by_cases hL : L ≤ q.length
          · have hL1 : 2 + (L : Int) ≤ ((txt (d0 :: d1 :: q)).size : Int) := by rw [HTz.out]; omega
            have hL2 : 2 + L ≤ (txt (d0 :: d1 :: q)).size := by omega
            have HCut0 := Lib.hid (HCx.out hL)
            generalize txt (d0 :: d1 :: q) = T at *
            generalize txt (q.take L) = T1 at xa HCut0
            have HCut : Hid (cutW (4 :: d0 :: d1 :: q) = if rightB ⟨4, 0, T1⟩ = true then some (⟨4, 0, T1⟩, q.drop L) else none) := Lib.hid (HCut0.out)
            obtain ⟨zs, hzs⟩ : ∃ zs, acc ++ [(⟨4, 0, T1⟩ : V)] = zs := ⟨_, rfl⟩
            have HZ := Lib.hid hzs
            clear hzs
            generalize txt (4 :: d0 :: d1 :: q) = S at r0 x1 hS hS1 HSz
            cases ht : tupleB zs with
            | true =>
              have HU : Hid (readK cutW fu zs (q.drop L) = readAll cutW s0.data.toList) := Lib.hid (by rw [← hu.out, step_true Hns.out HCut.out (by rw [HZ.out]; exact ht), HZ.out])
              have HQ : Hid ((q.drop L).length ≤ 1000000 ∧ (q.drop L).length < fu ∧ (q.drop L).length < S.size) := Lib.hid (by have h9 := HSz.out; have h8 := Hrl.out; simp only [List.length_cons] at h8 h9; rw [List.length_drop]; omega)
              have HTt := Lib.hid ht
              clear ht hu
              go_wp2_with fail
              go_quiet (fail)
              have HoW : Hid (∀ o, OwV ((((wr.alloc (.cells #[.int .i64 4, .int .i64 0, .string ⟨#[]⟩] 23)).drewN nq).setCell ⟨wr.heap.size, 2, none⟩ (.string T1)).alloc o) w.heap.size (.slice oa acc.length ocap) acc) := Lib.hid (fun o => ho.keep ((((Ch.alloc (fun k => wr.heap.size ≤ k) wr _).tr (Ch.drewN _ _ nq)).tr (Ch.setCell _ _ _ (fun _ => Nat.le_refl _))).tr (Ch.alloc _ _ o)) (fun k hk h => absurd (ho.own k hk).2 (by omega)))
              have HcW : Hid (∀ o, Ch (fun _ => False) w ((((wr.alloc (.cells #[.int .i64 4, .int .i64 0, .string ⟨#[]⟩] 23)).drewN nq).setCell ⟨wr.heap.size, 2, none⟩ (.string T1)).alloc o)) := Lib.hid (fun o => hch.trans ((((Ch.alloc (fun k => wr.heap.size ≤ k) wr _).tr (Ch.drewN _ _ nq)).tr (Ch.setCell _ _ _ (fun _ => Nat.le_refl _))).tr (Ch.alloc _ _ o)) (fun j hj h => by omega))
              have HzW : Hid ((((wr.alloc (.cells #[.int .i64 4, .int .i64 0, .string ⟨#[]⟩] 23)).drewN nq).setCell ⟨wr.heap.size, 2, none⟩ (.string T1)).heap.size = wr.heap.size + 1) := Lib.hid (by simp [World.setCell])
              go_wp2_with (first | (at_builtin; refine wpList_val rfl (.tmp 70) (.tmp 72) rfl w.heap.size (.slice oa acc.length ocap) acc rfl (HoW.out _) (wr.heap.size + 1) ⟨4, 0, T1⟩ rfl (vrowAt _ _ HzW.out ⟨4, 0, T1⟩) (by omega) (by simp; omega) ?_; intro v2 w2 ho3 hg3; have hch2 : Ch (fun _ => False) w w2 := (HcW.out _).trans hg3 (fun j hj h => absurd (ho.own j h).1 (by omega)); rw [HZ.out] at ho3; clear hg3; obtain ⟨a3, c3, rfl, hr3, -, -⟩ := ho3.rd) | (go_at_call 33; refine (rtuple_any a3 c3 zs w2 hr3).mono ?_; rw [HTt.out]; rintro e w3 ⟨rfl, hb3⟩))
              have hch3 := hch2.tr (Ch.of_new hb3)
              have ho4 := ho3.new hb3
              clear hb3 hch2 ho3 hr3 ho hch
              go_wp2
              go_roundw
              case rel => exact ⟨q.drop L, zs, fu, rfl, ho4, HTt, HQ.out.1, HQ.out.2.1, HU, hch3⟩
              case measure => exact HQ.out.2.2
            | false =>
              have HU : Hid (readAll cutW s0.data.toList = none) := Lib.hid (by rw [← hu.out, step_false Hns.out HCut.out (by rw [HZ.out]; exact ht) HA.out])
              have HTt := Lib.hid ht
              clear ht hu
              go_wp2_with fail
              go_quiet (fail)
              have HoW : Hid (∀ o, OwV ((((wr.alloc (.cells #[.int .i64 4, .int .i64 0, .string ⟨#[]⟩] 23)).drewN nq).setCell ⟨wr.heap.size, 2, none⟩ (.string T1)).alloc o) w.heap.size (.slice oa acc.length ocap) acc) := Lib.hid (fun o => ho.keep ((((Ch.alloc (fun k => wr.heap.size ≤ k) wr _).tr (Ch.drewN _ _ nq)).tr (Ch.setCell _ _ _ (fun _ => Nat.le_refl _))).tr (Ch.alloc _ _ o)) (fun k hk h => absurd (ho.own k hk).2 (by omega)))
              have HcW : Hid (∀ o, Ch (fun _ => False) w ((((wr.alloc (.cells #[.int .i64 4, .int .i64 0, .string ⟨#[]⟩] 23)).drewN nq).setCell ⟨wr.heap.size, 2, none⟩ (.string T1)).alloc o)) := Lib.hid (fun o => hch.trans ((((Ch.alloc (fun k => wr.heap.size ≤ k) wr _).tr (Ch.drewN _ _ nq)).tr (Ch.setCell _ _ _ (fun _ => Nat.le_refl _))).tr (Ch.alloc _ _ o)) (fun j hj h => by omega))
              have HzW : Hid ((((wr.alloc (.cells #[.int .i64 4, .int .i64 0, .string ⟨#[]⟩] 23)).drewN nq).setCell ⟨wr.heap.size, 2, none⟩ (.string T1)).heap.size = wr.heap.size + 1) := Lib.hid (by simp [World.setCell])
              go_wp2_with (first | (at_builtin; refine wpList_val rfl (.tmp 70) (.tmp 72) rfl w.heap.size (.slice oa acc.length ocap) acc rfl (HoW.out _) (wr.heap.size + 1) ⟨4, 0, T1⟩ rfl (vrowAt _ _ HzW.out ⟨4, 0, T1⟩) (by omega) (by simp; omega) ?_; intro v2 w2 ho3 hg3; have hch2 : Ch (fun _ => False) w w2 := (HcW.out _).trans hg3 (fun j hj h => absurd (ho.own j h).1 (by omega)); rw [HZ.out] at ho3; clear hg3; obtain ⟨a3, c3, rfl, hr3, -, -⟩ := ho3.rd) | (go_at_call 33; refine (rtuple_any a3 c3 zs w2 hr3).mono ?_; rw [HTt.out]; rintro e w3 ⟨rfl, hb3⟩))
              go_wp2
              go_ret2
              exact ⟨.inr ⟨HU.out, rfl⟩, (hch2.tr (Ch.of_new hb3)).new⟩
          · have hL1 : ((txt (d0 :: d1 :: q)).size : Int) < 2 + (L : Int) := by rw [HTz.out]; omega
            have HF : Hid (readAll cutW s0.data.toList = none) := Lib.hid (by rw [← hu.out, readK_none cutW fu acc _ Hns.out (by rw [HCn.out, if_neg (fun h => hL h.2)])])
            generalize txt (d0 :: d1 :: q) = T at *
            generalize txt (4 :: d0 :: d1 :: q) = S at r0 x1 hS hS1 HSz
            go_wp2_with fail
            go_quiet (fail)
            go_wp2
            go_ret2
            exact ⟨.inr ⟨HF.out, rfl⟩, ((hch.tr (Ch.alloc _ _ _)).tr (Ch.drewN _ _ nq)).new⟩
      have n0 := u8_ne b 0 (by decide) h0
      have n1 := u8_ne b 1 (by decide) h1
      have n2 := u8_ne b 2 (by decide) h2
      have n3 := u8_ne b 3 (by decide) h3
      have n4 := u8_ne b 4 (by decide) h4
      have nb := b.toNat_lt
      have m0 : ((b.toNat : Int) == 0) = false := beq_eq_false_iff_ne.2 (by omega)
      have m1 : ((b.toNat : Int) == 1) = false := beq_eq_false_iff_ne.2 (by omega)
      have m2 : ((b.toNat : Int) == 2) = false := beq_eq_false_iff_ne.2 (by omega)
      have m3 : ((b.toNat : Int) == 3) = false := beq_eq_false_iff_ne.2 (by omega)
      have m4 : ((b.toNat : Int) == 4) = false := beq_eq_false_iff_ne.2 (by omega)
      have HF : Hid (readAll cutW s0.data.toList = none) := Lib.hid (by rw [← hu.out, readK_none cutW fu acc _ Hns.out (by simp [cutW, h0, h1, h2, h3, h4])])
      obtain ⟨zs, hzs⟩ : ∃ zs, acc ++ [(⟨(b.toNat : Int), 0, ⟨#[]⟩⟩ : V)] = zs := ⟨_, rfl⟩
      have HTt : Hid (tupleB zs = false) := Lib.hid (by
        rw [← hzs]
        unfold tupleB
        rw [List.all_append]
        have : rightB ⟨(b.toNat : Int), 0, ⟨#[]⟩⟩ = false := by
          unfold rightB
          rw [if_neg (by simp; omega), if_neg (by simp; omega), if_neg (by simp; omega), if_neg (by simp; omega)]
        simp [this])
      have HZ := Lib.hid hzs
      clear hzs h0 h1 h2 h3 h4 n0 n1 n2 n3 n4
      generalize txt (b :: r) = S at r0 x1 hS hS1 HSz
      go_wp2_with (first | (at_builtin; refine wpList_val rfl (.tmp 70) (.tmp 72) rfl w.heap.size (.slice oa acc.length ocap) acc rfl (ho.keep ((Ch.alloc (fun _ => False) _ _).tr (Ch.alloc _ _ _)) (fun _ _ => id)) (wr.heap.size + 1) ⟨(b.toNat : Int), 0, ⟨#[]⟩⟩ rfl (vrow2 _ _ ⟨(b.toNat : Int), 0, ⟨#[]⟩⟩) (by omega) (by simp; omega) ?_; intro v2 w2 ho3 hg3; have hch2 : Ch (fun _ => False) w w2 := ((hch.tr (Ch.alloc _ _ _)).tr (Ch.alloc _ _ _)).trans hg3 (fun j hj h => absurd (ho.own j h).1 (by omega)); rw [HZ.out] at ho3; clear hg3; obtain ⟨a3, c3, rfl, hr3, -, -⟩ := ho3.rd) | (go_at_call 33; refine (rtuple_any a3 c3 zs w2 hr3).mono ?_; rw [HTt.out]; rintro e w3 ⟨rfl, hb3⟩))
      go_ret2
      exact ⟨.inr ⟨HF.out, rfl⟩, (hch2.tr (Ch.of_new hb3)).new⟩
end Go.Proofs.YtmlllgcmhapadaaDoor
