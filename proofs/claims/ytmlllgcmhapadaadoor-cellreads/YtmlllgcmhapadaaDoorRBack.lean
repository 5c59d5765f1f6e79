/- The walk of the document's Back. -/
import Derived.Test.YtmlllgcmhapadaaDoorRRead
namespace Go.Proofs.YtmlllgcmhapadaaDoor
open Go Go.RowKit
attribute [-go_sem] Builtin.append_

theorem cutK_bool (r : List UInt8) (b : UInt8) : cutK (3 :: b :: r) = if rightB ⟨2, b.toNat, emp⟩ = true then some (⟨2, b.toNat, emp⟩, r) else none := by
  rw [rightB_bool]
  show (if b.toNat ≤ 1 then some ((⟨2, b.toNat, emp⟩ : V), r) else none) = _
  by_cases h : b.toNat ≤ 1
  · rw [if_pos h, decide_eq_true h, if_pos rfl]
  · rw [if_neg h, decide_eq_false h, if_neg Bool.false_ne_true]
theorem cutK_txt (k : UInt8) (hk : k = 4 ∨ k = 5) (r t q : List UInt8) (h : unmark r = some (t, q)) :
    cutK (k :: r) = if rightB ⟨(k.toNat : Int) - 1, 0, txt t⟩ = true then some (⟨(k.toNat : Int) - 1, 0, txt t⟩, q) else none := by
  have hk' : ((k.toNat : Int) - 1) = 3 ∨ ((k.toNat : Int) - 1) = 4 := by rcases hk with rfl | rfl <;> simp
  rw [cutK_text k hk, rightB_text _ hk']
  unfold markR
  rw [h]
  show Option.map _ (if t.length ≤ 1000 then some (t, q) else none) = _
  by_cases h2 : t.length ≤ 1000
  · rw [if_pos h2, decide_eq_true h2, if_pos rfl]; rfl
  · rw [if_neg h2, decide_eq_false h2, if_neg Bool.false_ne_true]; rfl
theorem cutK_no (k : UInt8) (hk : k = 4 ∨ k = 5) (r : List UInt8) (h : unmark r = none) : cutK (k :: r) = none := by
  rw [cutK_text k hk]
  unfold markR
  rw [h]
  rfl

set_option maxRecDepth 100000 in
set_option maxHeartbeats 8000000 in
theorem rback_any (s0 : ByteArray) (hm : s0.size ≤ 1000000) (w : World) :
    Calls Tryd.prog 23 #[.string s0] w (ReadP (readAll cutK s0.data.toList) w) := by
  go_enter Tryd.func23, Tryd.ntmps23
  go_wp2
  go_loopw [0, 4] (fun s v wr => ∃ (c : List UInt8) (acc : List V) (fu : Nat), s = .string (txt c) ∧ OwV wr w.heap.size v acc ∧ Hid (tupleB acc = true) ∧ c.length ≤ 1000000 ∧ c.length < fu ∧ Hid (readK cutK fu acc c = readAll cutK s0.data.toList) ∧ Ch (fun _ => False) w wr) (fun s _ _ => strLen s)
  case atStart => exact ⟨s0.data.toList, [], _, rfl, OwV.nil _ _, Lib.hid rfl, by rw [size_data]; exact hm, Nat.lt_succ_self _, Lib.hid rfl, Ch.refl _ _⟩
  case round =>
    obtain ⟨c, acc, fu, rfl, ho, HA, hcl, hfu, hu, hch⟩ := hrel
    have hz := hch.size
    obtain ⟨oa, ocap, rfl⟩ := ho.form
    obtain ⟨fu, rfl⟩ : ∃ n, fu = n + 1 := ⟨fu - 1, by omega⟩
    have hal : acc.length ≤ 64 := (tuple_parts HA.out).1
    cases c with
    | nil =>
      have HF : Hid (readAll cutK s0.data.toList = some acc) := Lib.hid (by rw [← hu.out, readK_nil])
      have hs0 : (txt []).size = 0 := rfl
      go_wp2
      go_ret2
      exact ⟨.inl ⟨acc, _, HF.out, rfl, ho⟩, hch.new⟩
    | cons b r =>
      have hrl : r.length ≤ 1000000 := by simp at hcl; omega
      have e0 : (txt (b :: r))[0]? = Option.some b := get_of_data _ 0 rfl
      have r0 := run_index (txt (b :: r)) .i64 0 0 rfl b e0
      have x1 := ext1 b r
      have hS : 0 < ((txt (b :: r)).size : Int) := by rw [txt_size]; simp
      have hS1 : (1 : Int) ≤ ((txt (b :: r)).size : Int) := by rw [txt_size]; simp; omega
      have HSz := Lib.hid (txt_size (b :: r))
      have Hrl : Hid ((b :: r).length < fu + 1) := Lib.hid hfu
      have Hns : Hid (b :: r ≠ []) := Lib.hid (by simp)
      clear e0 hcl hfu
      by_cases h0 : b = 1
      · subst h0
        have HCut : Hid (cutK (1 :: r) = if rightB ⟨0, 0, ⟨#[]⟩⟩ = true then some (⟨0, 0, ⟨#[]⟩⟩, r) else none) := Lib.hid (by rfl)
        obtain ⟨zs, hzs⟩ : ∃ zs, acc ++ [(⟨0, 0, ⟨#[]⟩⟩ : V)] = zs := ⟨_, rfl⟩
        have HZ := Lib.hid hzs
        clear hzs
        generalize txt (1 :: r) = S at r0 x1 hS hS1 HSz
        cases ht : tupleB zs with
        | true =>
          have HU : Hid (readK cutK fu zs (r) = readAll cutK s0.data.toList) := Lib.hid (by rw [← hu.out, step_true Hns.out HCut.out (by rw [HZ.out]; exact ht), HZ.out])
          have HQ : Hid ((r).length ≤ 1000000 ∧ (r).length < fu ∧ (r).length < S.size) := Lib.hid (by have h9 := HSz.out; have h8 := Hrl.out; simp only [List.length_cons] at h8 h9; omega)
          have HTt := Lib.hid ht
          clear ht hu
          go_wp2_with (first | (at_builtin; refine wpList_val rfl (.tmp 106) (.tmp 108) rfl w.heap.size (.slice oa acc.length ocap) acc rfl (ho.keep ((Ch.alloc (fun _ => False) _ _).tr (Ch.alloc _ _ _)) (fun _ _ => id)) (wr.heap.size + 1) ⟨0, 0, ⟨#[]⟩⟩ rfl (vrow2 _ _ ⟨0, 0, ⟨#[]⟩⟩) (by omega) (by simp; omega) ?_; intro v2 w2 ho3 hg3; have hch2 : Ch (fun _ => False) w w2 := ((hch.tr (Ch.alloc _ _ _)).tr (Ch.alloc _ _ _)).trans hg3 (fun j hj h => absurd (ho.own j h).1 (by omega)); rw [HZ.out] at ho3; clear hg3; obtain ⟨a3, c3, rfl, hr3, -, -⟩ := ho3.rd) | (go_at_call 33; refine (rtuple_any a3 c3 zs w2 hr3).mono ?_; rw [HTt.out]; rintro e w3 ⟨rfl, hb3⟩))
          have hch3 := hch2.tr (Ch.of_new hb3)
          have ho4 := ho3.new hb3
          clear hb3 hch2 ho3 hr3 ho hch
          go_wp2
          go_roundw
          case rel => exact ⟨r, zs, fu, rfl, ho4, HTt, HQ.out.1, HQ.out.2.1, HU, hch3⟩
          case measure => exact HQ.out.2.2
        | false =>
          have HU : Hid (readAll cutK s0.data.toList = none) := Lib.hid (by rw [← hu.out, step_false Hns.out HCut.out (by rw [HZ.out]; exact ht) HA.out])
          have HTt := Lib.hid ht
          clear ht hu
          go_wp2_with (first | (at_builtin; refine wpList_val rfl (.tmp 106) (.tmp 108) rfl w.heap.size (.slice oa acc.length ocap) acc rfl (ho.keep ((Ch.alloc (fun _ => False) _ _).tr (Ch.alloc _ _ _)) (fun _ _ => id)) (wr.heap.size + 1) ⟨0, 0, ⟨#[]⟩⟩ rfl (vrow2 _ _ ⟨0, 0, ⟨#[]⟩⟩) (by omega) (by simp; omega) ?_; intro v2 w2 ho3 hg3; have hch2 : Ch (fun _ => False) w w2 := ((hch.tr (Ch.alloc _ _ _)).tr (Ch.alloc _ _ _)).trans hg3 (fun j hj h => absurd (ho.own j h).1 (by omega)); rw [HZ.out] at ho3; clear hg3; obtain ⟨a3, c3, rfl, hr3, -, -⟩ := ho3.rd) | (go_at_call 33; refine (rtuple_any a3 c3 zs w2 hr3).mono ?_; rw [HTt.out]; rintro e w3 ⟨rfl, hb3⟩))
          go_wp2
          go_ret2
          exact ⟨.inr ⟨HU.out, rfl⟩, (hch2.tr (Ch.of_new hb3)).new⟩
      by_cases h1 : b = 2
      · subst h1
        by_cases hl : r.length < 8
        · have HF : Hid (readAll cutK s0.data.toList = none) := Lib.hid (by rw [← hu.out, readK_none cutK fu acc _ Hns.out (by simp [cutK, hl])])
          have hl' : ((txt r).size : Int) < 8 := by rw [txt_size]; omega
          generalize txt (2 :: r) = S at r0 x1 hS hS1 HSz
          generalize txt r = T at x1 hl'
          go_wp2
          go_ret2
          exact ⟨.inr ⟨HF.out, rfl⟩, (hch.tr (Ch.alloc _ _ _)).new⟩
        · have hn := numL_lt (r.take 8) 8 (by rw [List.length_take]; omega)
          have hw := xorB (numL (r.take 8)) (by omega)
          have HN := Lib.hid (number_any (txt r) (by rw [txt_size]; omega))
          rw [txt_data] at HN
          have x8 : (txt r).extract 8 (txt r).size = txt (r.drop 8) := end_txt _ _
          have hl' : (8 : Int) ≤ ((txt r).size : Int) := by rw [txt_size]; omega
          have HCut0 : Hid (cutK (2 :: r) = some (⟨1, (numL (r.take 8) : Int) - 9223372036854775808, ⟨#[]⟩⟩, r.drop 8)) := Lib.hid (by simp [cutK, hl]; rfl)
          generalize numL (r.take 8) = N at HN hw hn HCut0
          generalize (N : Int) - 9223372036854775808 = Z at hw HCut0
          clear hn
          generalize txt r = T at x1 x8 hl' HN
          have HCut : Hid (cutK (2 :: r) = if rightB ⟨1, Z, ⟨#[]⟩⟩ = true then some (⟨1, Z, ⟨#[]⟩⟩, r.drop 8) else none) := Lib.hid (by rw [HCut0.out]; rfl)
          obtain ⟨zs, hzs⟩ : ∃ zs, acc ++ [(⟨1, Z, ⟨#[]⟩⟩ : V)] = zs := ⟨_, rfl⟩
          have HZ := Lib.hid hzs
          clear hzs
          generalize txt (2 :: r) = S at r0 x1 hS hS1 HSz
          cases ht : tupleB zs with
          | true =>
            have HU : Hid (readK cutK fu zs (r.drop 8) = readAll cutK s0.data.toList) := Lib.hid (by rw [← hu.out, step_true Hns.out HCut.out (by rw [HZ.out]; exact ht), HZ.out])
            have HQ : Hid ((r.drop 8).length ≤ 1000000 ∧ (r.drop 8).length < fu ∧ (r.drop 8).length < S.size) := Lib.hid (by have h9 := HSz.out; have h8 := Hrl.out; simp only [List.length_cons] at h8 h9; rw [List.length_drop]; omega)
            have HTt := Lib.hid ht
            clear ht hu
            go_wp2_with (first | (go_at_call 38; (with_reducible refine (HN.out _).mono ?_); rintro e w1 ⟨rfl, rfl⟩) | (at_builtin; refine wpList_val rfl (.tmp 106) (.tmp 108) rfl w.heap.size (.slice oa acc.length ocap) acc rfl (ho.keep ((Ch.alloc (fun _ => False) _ _).tr (Ch.alloc _ _ _)) (fun _ _ => id)) (wr.heap.size + 1) ⟨1, Z, ⟨#[]⟩⟩ rfl (vrow2 _ _ ⟨1, Z, ⟨#[]⟩⟩) (by omega) (by simp; omega) ?_; intro v2 w2 ho3 hg3; have hch2 : Ch (fun _ => False) w w2 := ((hch.tr (Ch.alloc _ _ _)).tr (Ch.alloc _ _ _)).trans hg3 (fun j hj h => absurd (ho.own j h).1 (by omega)); rw [HZ.out] at ho3; clear hg3; obtain ⟨a3, c3, rfl, hr3, -, -⟩ := ho3.rd) | (go_at_call 33; refine (rtuple_any a3 c3 zs w2 hr3).mono ?_; rw [HTt.out]; rintro e w3 ⟨rfl, hb3⟩))
            have hch3 := hch2.tr (Ch.of_new hb3)
            have ho4 := ho3.new hb3
            clear hb3 hch2 ho3 hr3 ho hch
            go_wp2
            go_roundw
            case rel => exact ⟨r.drop 8, zs, fu, rfl, ho4, HTt, HQ.out.1, HQ.out.2.1, HU, hch3⟩
            case measure => exact HQ.out.2.2
          | false =>
            have HU : Hid (readAll cutK s0.data.toList = none) := Lib.hid (by rw [← hu.out, step_false Hns.out HCut.out (by rw [HZ.out]; exact ht) HA.out])
            have HTt := Lib.hid ht
            clear ht hu
            go_wp2_with (first | (go_at_call 38; (with_reducible refine (HN.out _).mono ?_); rintro e w1 ⟨rfl, rfl⟩) | (at_builtin; refine wpList_val rfl (.tmp 106) (.tmp 108) rfl w.heap.size (.slice oa acc.length ocap) acc rfl (ho.keep ((Ch.alloc (fun _ => False) _ _).tr (Ch.alloc _ _ _)) (fun _ _ => id)) (wr.heap.size + 1) ⟨1, Z, ⟨#[]⟩⟩ rfl (vrow2 _ _ ⟨1, Z, ⟨#[]⟩⟩) (by omega) (by simp; omega) ?_; intro v2 w2 ho3 hg3; have hch2 : Ch (fun _ => False) w w2 := ((hch.tr (Ch.alloc _ _ _)).tr (Ch.alloc _ _ _)).trans hg3 (fun j hj h => absurd (ho.own j h).1 (by omega)); rw [HZ.out] at ho3; clear hg3; obtain ⟨a3, c3, rfl, hr3, -, -⟩ := ho3.rd) | (go_at_call 33; refine (rtuple_any a3 c3 zs w2 hr3).mono ?_; rw [HTt.out]; rintro e w3 ⟨rfl, hb3⟩))
            go_wp2
            go_ret2
            exact ⟨.inr ⟨HU.out, rfl⟩, (hch2.tr (Ch.of_new hb3)).new⟩
      by_cases h2 : b = 3
      · subst h2
        cases r with
        | nil =>
          have HF : Hid (readAll cutK s0.data.toList = none) := Lib.hid (by rw [← hu.out, readK_none cutK fu acc _ Hns.out (by rfl)])
          have hl' : ((txt []).size : Int) < 1 := by decide
          generalize txt [3] = S at r0 x1 hS hS1 HSz
          generalize txt [] = T at x1 hl'
          go_wp2
          go_ret2
          exact ⟨.inr ⟨HF.out, rfl⟩, (hch.tr (Ch.alloc _ _ _)).new⟩
        | cons d q =>
          have d0 : (txt (d :: q))[0]? = Option.some d := get_of_data _ 0 rfl
          have s0' := run_index (txt (d :: q)) .i64 0 0 rfl d d0
          have y1 := ext1 d q
          have hl' : (1 : Int) ≤ ((txt (d :: q)).size : Int) := by rw [txt_size]; simp; omega
          clear d0
          have kd : d.toNat < 256 := d.toNat_lt
          have kw : IntKind.i64.wrap (d.toNat : Int) = (d.toNat : Int) := IntWalk.i64_in _ (by omega)
          have hq9 : q.length ≤ 1000000 := by simp at hrl; omega
          generalize txt (d :: q) = T at x1 s0' y1 hl'
          have HCut : Hid (cutK (3 :: d :: q) = if rightB ⟨2, (d.toNat : Int), ⟨#[]⟩⟩ = true then some (⟨2, (d.toNat : Int), ⟨#[]⟩⟩, q) else none) := Lib.hid (cutK_bool q d)
          obtain ⟨zs, hzs⟩ : ∃ zs, acc ++ [(⟨2, (d.toNat : Int), ⟨#[]⟩⟩ : V)] = zs := ⟨_, rfl⟩
          have HZ := Lib.hid hzs
          clear hzs
          generalize txt (3 :: d :: q) = S at r0 x1 hS hS1 HSz
          cases ht : tupleB zs with
          | true =>
            have HU : Hid (readK cutK fu zs (q) = readAll cutK s0.data.toList) := Lib.hid (by rw [← hu.out, step_true Hns.out HCut.out (by rw [HZ.out]; exact ht), HZ.out])
            have HQ : Hid ((q).length ≤ 1000000 ∧ (q).length < fu ∧ (q).length < S.size) := Lib.hid (by have h9 := HSz.out; have h8 := Hrl.out; simp only [List.length_cons] at h8 h9; omega)
            have HTt := Lib.hid ht
            clear ht hu
            go_wp2_with (first | (at_builtin; refine wpList_val rfl (.tmp 106) (.tmp 108) rfl w.heap.size (.slice oa acc.length ocap) acc rfl (ho.keep ((Ch.alloc (fun _ => False) _ _).tr (Ch.alloc _ _ _)) (fun _ _ => id)) (wr.heap.size + 1) ⟨2, (d.toNat : Int), ⟨#[]⟩⟩ rfl (vrow2 _ _ ⟨2, (d.toNat : Int), ⟨#[]⟩⟩) (by omega) (by simp; omega) ?_; intro v2 w2 ho3 hg3; have hch2 : Ch (fun _ => False) w w2 := ((hch.tr (Ch.alloc _ _ _)).tr (Ch.alloc _ _ _)).trans hg3 (fun j hj h => absurd (ho.own j h).1 (by omega)); rw [HZ.out] at ho3; clear hg3; obtain ⟨a3, c3, rfl, hr3, -, -⟩ := ho3.rd) | (go_at_call 33; refine (rtuple_any a3 c3 zs w2 hr3).mono ?_; rw [HTt.out]; rintro e w3 ⟨rfl, hb3⟩))
            have hch3 := hch2.tr (Ch.of_new hb3)
            have ho4 := ho3.new hb3
            clear hb3 hch2 ho3 hr3 ho hch
            go_wp2
            go_roundw
            case rel => exact ⟨q, zs, fu, rfl, ho4, HTt, HQ.out.1, HQ.out.2.1, HU, hch3⟩
            case measure => exact HQ.out.2.2
          | false =>
            have HU : Hid (readAll cutK s0.data.toList = none) := Lib.hid (by rw [← hu.out, step_false Hns.out HCut.out (by rw [HZ.out]; exact ht) HA.out])
            have HTt := Lib.hid ht
            clear ht hu
            go_wp2_with (first | (at_builtin; refine wpList_val rfl (.tmp 106) (.tmp 108) rfl w.heap.size (.slice oa acc.length ocap) acc rfl (ho.keep ((Ch.alloc (fun _ => False) _ _).tr (Ch.alloc _ _ _)) (fun _ _ => id)) (wr.heap.size + 1) ⟨2, (d.toNat : Int), ⟨#[]⟩⟩ rfl (vrow2 _ _ ⟨2, (d.toNat : Int), ⟨#[]⟩⟩) (by omega) (by simp; omega) ?_; intro v2 w2 ho3 hg3; have hch2 : Ch (fun _ => False) w w2 := ((hch.tr (Ch.alloc _ _ _)).tr (Ch.alloc _ _ _)).trans hg3 (fun j hj h => absurd (ho.own j h).1 (by omega)); rw [HZ.out] at ho3; clear hg3; obtain ⟨a3, c3, rfl, hr3, -, -⟩ := ho3.rd) | (go_at_call 33; refine (rtuple_any a3 c3 zs w2 hr3).mono ?_; rw [HTt.out]; rintro e w3 ⟨rfl, hb3⟩))
            go_wp2
            go_ret2
            exact ⟨.inr ⟨HU.out, rfl⟩, (hch2.tr (Ch.of_new hb3)).new⟩
      by_cases h3 : b = 4
      · subst h3
        have HCx := Lib.hid (cutK_txt 4 (.inl rfl) r)
        have HCn := Lib.hid (cutK_no 4 (.inl rfl) r)
        generalize txt (4 :: r) = S at r0 x1 hS hS1 HSz
        obtain ⟨wo, rfl⟩ : ∃ x, x = wr := ⟨_, rfl⟩
        go_wp2
        generalize decide (0 < S.size) = B0
        go_loopw [0, 6, 7] (fun s v en wr => ∃ (c o : List UInt8) (e : Bool), s = .string (txt c) ∧ OwB wr (wo.heap.size + 1) v o ∧ en = .bool e ∧ c.length + o.length ≤ 1000000 ∧ Hid (c.length ≤ r.length ∧ (e = false → um o c = unmark r) ∧ (e = true → unmark r = some (o, c))) ∧ Ch (fun _ => False) (wo.alloc (.cells #[.int .i64 3, .int .i64 0, .string ⟨#[]⟩] 23)) wr) (fun s _ _ _ => strLen s)
        case atStart => exact ⟨r, [], false, rfl, OwB.nil _ _, rfl, by simpa using hrl, Lib.hid ⟨Nat.le_refl _, fun _ => um_start _, fun h => by cases h⟩, Ch.refl _ _⟩
        case round =>
          obtain ⟨c, o, e, rfl, hob, rfl, hcl, hu2, hci⟩ := hrel
          have hzi : wo.heap.size + 1 ≤ wr.heap.size := by have := hci.size; rw [World.size_alloc] at this; exact this
          obtain ⟨oba, obc, rfl⟩ := hob.form
          have HcI : Hid (Ch (fun _ => False) w wr) := Lib.hid ((hch.tr (Ch.alloc _ _ _)).tr hci)
          cases e with
          | true =>
            have HC0 := Lib.hid (HCx.out o c (hu2.out.2.2 rfl))
            have hBx : Bx wr wo.heap.size (.int .i64 3) (.int .i64 0) (.string ⟨#[]⟩) := (Bx.new wo _ _ _).keep hci id
            obtain ⟨f0, f1, f2⟩ := hBx.cells
            have hfz := hBx.frozen
            have hcv : (convert 43 9 (.slice oba o.length obc)).run Tryd.prog wr = .ok (.string (txt o)) wr := conv_own hob
            generalize txt o = T1 at HC0 hcv
            have HoW : Hid (∀ o', OwV ((wr.setCell ⟨wo.heap.size, 2, none⟩ (.string T1)).alloc o') w.heap.size (.slice oa acc.length ocap) acc) := Lib.hid (fun o' => ho.keep ((((Ch.alloc (fun k => wo.heap.size ≤ k) wo _).tr (hci.mono (fun _ _ h => h.elim))).tr (Ch.setCell _ _ _ (fun _ => Nat.le_refl _))).tr (Ch.alloc _ _ o')) (fun k hk h => absurd (ho.own k hk).2 (by omega)))
            have HcW : Hid (∀ o', Ch (fun _ => False) w ((wr.setCell ⟨wo.heap.size, 2, none⟩ (.string T1)).alloc o')) := Lib.hid (fun o' => hch.trans ((((Ch.alloc (fun k => wo.heap.size ≤ k) wo _).tr (hci.mono (fun _ _ h => h.elim))).tr (Ch.setCell _ _ _ (fun _ => Nat.le_refl _))).tr (Ch.alloc _ _ o')) (fun j hj h => by omega))
            have HzW : Hid ((wr.setCell ⟨wo.heap.size, 2, none⟩ (.string T1)).heap.size = wr.heap.size) := Lib.hid (by simp [World.setCell])
            clear hBx
            have HCut : Hid (cutK (4 :: r) = if rightB ⟨3, 0, T1⟩ = true then some (⟨3, 0, T1⟩, c) else none) := Lib.hid (HC0.out)
            obtain ⟨zs, hzs⟩ : ∃ zs, acc ++ [(⟨3, 0, T1⟩ : V)] = zs := ⟨_, rfl⟩
            have HZ := Lib.hid hzs
            clear hzs
            cases ht : tupleB zs with
            | true =>
              have HU : Hid (readK cutK fu zs (c) = readAll cutK s0.data.toList) := Lib.hid (by rw [← hu.out, step_true Hns.out HCut.out (by rw [HZ.out]; exact ht), HZ.out])
              have HQ : Hid ((c).length ≤ 1000000 ∧ (c).length < fu ∧ (c).length < S.size) := Lib.hid (by have h9 := HSz.out; have h8 := Hrl.out; simp only [List.length_cons] at h8 h9; have h7 := hu2.out.1; omega)
              have HTt := Lib.hid ht
              clear ht hu
              go_wp2_with (first | (at_builtin; refine wpList_val rfl (.tmp 106) (.tmp 108) rfl w.heap.size (.slice oa acc.length ocap) acc rfl (HoW.out _) wr.heap.size ⟨3, 0, T1⟩ rfl (vrowAt _ _ HzW.out ⟨3, 0, T1⟩) (by omega) (by simp; omega) ?_; intro v2 w2 ho3 hg3; have hch2 : Ch (fun _ => False) w w2 := (HcW.out _).trans hg3 (fun j hj h => absurd (ho.own j h).1 (by omega)); rw [HZ.out] at ho3; clear hg3; obtain ⟨a3, c3, rfl, hr3, -, -⟩ := ho3.rd) | (go_at_call 33; refine (rtuple_any a3 c3 zs w2 hr3).mono ?_; rw [HTt.out]; rintro e w3 ⟨rfl, hb3⟩))
              have hch3 := hch2.tr (Ch.of_new hb3)
              have ho4 := ho3.new hb3
              clear hb3 hch2 ho3 hr3
              go_wp2
              go_roundw
              case rel => exact ⟨c, zs, fu, rfl, ho4, HTt, HQ.out.1, HQ.out.2.1, HU, hch3⟩
              case measure => exact HQ.out.2.2
            | false =>
              have HU : Hid (readAll cutK s0.data.toList = none) := Lib.hid (by rw [← hu.out, step_false Hns.out HCut.out (by rw [HZ.out]; exact ht) HA.out])
              have HTt := Lib.hid ht
              clear ht hu
              go_wp2_with (first | (at_builtin; refine wpList_val rfl (.tmp 106) (.tmp 108) rfl w.heap.size (.slice oa acc.length ocap) acc rfl (HoW.out _) wr.heap.size ⟨3, 0, T1⟩ rfl (vrowAt _ _ HzW.out ⟨3, 0, T1⟩) (by omega) (by simp; omega) ?_; intro v2 w2 ho3 hg3; have hch2 : Ch (fun _ => False) w w2 := (HcW.out _).trans hg3 (fun j hj h => absurd (ho.own j h).1 (by omega)); rw [HZ.out] at ho3; clear hg3; obtain ⟨a3, c3, rfl, hr3, -, -⟩ := ho3.rd) | (go_at_call 33; refine (rtuple_any a3 c3 zs w2 hr3).mono ?_; rw [HTt.out]; rintro e w3 ⟨rfl, hb3⟩))
              go_wp2
              go_ret2
              exact ⟨.inr ⟨HU.out, rfl⟩, (hch2.tr (Ch.of_new hb3)).new⟩
          | false =>
            have HUm := Lib.hid (hu2.out.2.1 rfl)
            have HLc := Lib.hid hu2.out.1
            clear hu2
            cases c with
            | nil =>
              have HF : Hid (readAll cutK s0.data.toList = none) := Lib.hid (by rw [← hu.out, readK_none cutK fu acc _ Hns.out (HCn.out (by rw [← HUm.out, um_nil]))])
              have hs0 : (((txt []).size : Int) == 0) = true := rfl
              generalize txt [] = T at hs0
              go_wp2
              go_ret2
              exact ⟨.inr ⟨HF.out, rfl⟩, HcI.out.new⟩
            | cons b2 q =>
              have g0 : (txt (b2 :: q))[0]? = Option.some b2 := get_of_data _ 0 rfl
              have t0 := run_index (txt (b2 :: q)) .i64 0 0 rfl b2 g0
              have z0 : (((txt (b2 :: q)).size : Int) == 0) = false := by rw [txt_size]; exact beq_eq_false_iff_ne.2 (by simp; omega)
              have hT1 : (1 : Int) ≤ ((txt (b2 :: q)).size : Int) := by rw [txt_size]; simp; omega
              have HTz := Lib.hid (txt_size (b2 :: q))
              clear g0
              by_cases hb : b2 = 0
              · subst hb
                cases q with
                | nil =>
                  have HF : Hid (readAll cutK s0.data.toList = none) := Lib.hid (by rw [← hu.out, readK_none cutK fu acc _ Hns.out (HCn.out (by rw [← HUm.out, um_one]))])
                  have hT2 : ((txt [0]).size : Int) < 2 := by decide
                  generalize txt [0] = T at t0 z0 hT1 HTz hT2
                  go_wp2
                  go_ret2
                  exact ⟨.inr ⟨HF.out, rfl⟩, HcI.out.new⟩
                | cons d q =>
                  have g1 : (txt (0 :: d :: q))[1]? = Option.some d := get_of_data _ 1 rfl
                  have t1 := run_index (txt (0 :: d :: q)) .i64 1 1 rfl d g1
                  have y2 := ext2 0 d q
                  have hT2 : (2 : Int) ≤ ((txt (0 :: d :: q)).size : Int) := by rw [txt_size]; simp; omega
                  clear g1
                  have HQ2 : Hid ((txt q).size < (txt (0 :: d :: q)).size) := Lib.hid (by rw [txt_size, txt_size, List.length_cons, List.length_cons]; omega)
                  have HL2 : Hid (q.length ≤ r.length ∧ q.length + o.length + 1 ≤ 1000000) := Lib.hid (by have := HLc.out; simp at this hcl; omega)
                  clear HLc hcl
                  by_cases hd0 : d = 0
                  · subst hd0
                    have HU2 : Hid (unmark r = some (o, q)) := Lib.hid (by rw [← HUm.out, um_end])
                    clear HUm
                    generalize txt (0 :: 0 :: q) = T at t0 t1 y2 z0 hT1 HTz hT2 HQ2
                    go_wp2
                    go_roundw
                    case rel => exact ⟨q, o, true, rfl, hob, rfl, by have := HL2.out; omega, Lib.hid ⟨HL2.out.1, (fun h => by cases h), fun _ => HU2.out⟩, hci⟩
                    case measure => exact HQ2.out
                  · by_cases hdF : d = 255
                    · subst hdF
                      have HU2 : Hid (um (o ++ [0]) q = unmark r) := Lib.hid (by rw [← um_zero]; exact HUm.out)
                      clear HUm
                      have hol : o.length ≤ 1000000 := by have := HL2.out; omega
                      generalize txt (0 :: 255 :: q) = T at t0 t1 y2 z0 hT1 HTz hT2 HQ2
                      go_wp2_with (at_builtin; refine wpList_bytes rfl (.tmp 98) (.tmp 99) rfl (wo.heap.size + 1) (.slice oba o.length obc) o rfl (hob.keep (Ch.alloc (fun _ => False) _ _) (fun _ _ => id)) wr.heap.size [0] 1 rfl rfl (heap_alloc_new wr _) (by simp; omega) (by simp; omega) ?_; intro v' w1 ho1 hg1)
                      have hci1 : Ch (fun _ => False) (wo.alloc (.cells #[.int .i64 3, .int .i64 0, .string ⟨#[]⟩] 23)) w1 := (hci.tr (Ch.alloc _ _ _)).trans hg1 (fun j hj h => by have := (hob.own j h).1; rw [World.size_alloc] at hj; omega)
                      clear hg1 hob hci
                      go_wp2
                      go_roundw
                      case rel => exact ⟨q, o ++ [0], false, rfl, ho1, rfl, by have := HL2.out; simp; omega, Lib.hid ⟨HL2.out.1, (fun _ => HU2.out), (fun h => by cases h)⟩, hci1⟩
                      case measure => exact HQ2.out
                    · have HF : Hid (readAll cutK s0.data.toList = none) := Lib.hid (by rw [← hu.out, readK_none cutK fu acc _ Hns.out (HCn.out (by rw [← HUm.out, um_bad o d q hd0 hdF]))])
                      have n0 := u8_ne d 0 (by decide) hd0
                      have n1 := u8_ne d 255 (by decide) hdF
                      have m0 : ((d.toNat : Int) == 0) = false := beq_eq_false_iff_ne.2 (by omega)
                      have m1 : ((d.toNat : Int) == 255) = false := beq_eq_false_iff_ne.2 (by omega)
                      have p0 : ((d.toNat : Int) != 0) = true := by rw [bne, m0]; rfl
                      have p1 : ((d.toNat : Int) != 255) = true := by rw [bne, m1]; rfl
                      clear hd0 hdF n0 n1
                      generalize txt (0 :: d :: q) = T at t0 t1 y2 z0 hT1 HTz hT2 HQ2
                      go_wp2
                      go_ret2
                      exact ⟨.inr ⟨HF.out, rfl⟩, HcI.out.new⟩
              · have HU2 : Hid (um (o ++ [b2]) q = unmark r) := Lib.hid (by rw [← um_plain o q b2 hb]; exact HUm.out)
                have y1 := ext1 b2 q
                have n0 := u8_ne b2 0 (by decide) hb
                have m0 : ((b2.toNat : Int) == 0) = false := beq_eq_false_iff_ne.2 (by omega)
                have HQ2 : Hid ((txt q).size < (txt (b2 :: q)).size) := Lib.hid (by rw [txt_size, txt_size, List.length_cons]; omega)
                have HL2 : Hid (q.length ≤ r.length ∧ q.length + o.length + 1 ≤ 1000000) := Lib.hid (by have := HLc.out; simp at this hcl; omega)
                have hol : o.length ≤ 1000000 := by have := HL2.out; omega
                clear HLc hcl HUm hb n0
                generalize txt (b2 :: q) = T at t0 y1 z0 hT1 HTz HQ2
                go_wp2_with (at_builtin; refine wpList_bytes rfl (.tmp 76) (.tmp 79) rfl (wo.heap.size + 1) (.slice oba o.length obc) o rfl (hob.keep (Ch.alloc (fun _ => False) _ _) (fun _ _ => id)) wr.heap.size [b2] 1 rfl rfl (heap_alloc_new wr _) (by simp; omega) (by simp; omega) ?_; intro v' w1 ho1 hg1)
                have hci1 : Ch (fun _ => False) (wo.alloc (.cells #[.int .i64 3, .int .i64 0, .string ⟨#[]⟩] 23)) w1 := (hci.tr (Ch.alloc _ _ _)).trans hg1 (fun j hj h => by have := (hob.own j h).1; rw [World.size_alloc] at hj; omega)
                clear hg1 hob hci
                go_wp2
                go_roundw
                case rel => exact ⟨q, o ++ [b2], false, rfl, ho1, rfl, by have := HL2.out; simp; omega, Lib.hid ⟨HL2.out.1, (fun _ => HU2.out), (fun h => by cases h)⟩, hci1⟩
                case measure => exact HQ2.out
      by_cases h4 : b = 5
      · subst h4
        have HCx := Lib.hid (cutK_txt 5 (.inr rfl) r)
        have HCn := Lib.hid (cutK_no 5 (.inr rfl) r)
        generalize txt (5 :: r) = S at r0 x1 hS hS1 HSz
        obtain ⟨wo, rfl⟩ : ∃ x, x = wr := ⟨_, rfl⟩
        go_wp2
        generalize decide (0 < S.size) = B0
        go_loopw [0, 6, 7] (fun s v en wr => ∃ (c o : List UInt8) (e : Bool), s = .string (txt c) ∧ OwB wr (wo.heap.size + 1) v o ∧ en = .bool e ∧ c.length + o.length ≤ 1000000 ∧ Hid (c.length ≤ r.length ∧ (e = false → um o c = unmark r) ∧ (e = true → unmark r = some (o, c))) ∧ Ch (fun _ => False) (wo.alloc (.cells #[.int .i64 4, .int .i64 0, .string ⟨#[]⟩] 23)) wr) (fun s _ _ _ => strLen s)
        case atStart => exact ⟨r, [], false, rfl, OwB.nil _ _, rfl, by simpa using hrl, Lib.hid ⟨Nat.le_refl _, fun _ => um_start _, fun h => by cases h⟩, Ch.refl _ _⟩
        case round =>
          obtain ⟨c, o, e, rfl, hob, rfl, hcl, hu2, hci⟩ := hrel
          have hzi : wo.heap.size + 1 ≤ wr.heap.size := by have := hci.size; rw [World.size_alloc] at this; exact this
          obtain ⟨oba, obc, rfl⟩ := hob.form
          have HcI : Hid (Ch (fun _ => False) w wr) := Lib.hid ((hch.tr (Ch.alloc _ _ _)).tr hci)
          cases e with
          | true =>
            have HC0 := Lib.hid (HCx.out o c (hu2.out.2.2 rfl))
            have hBx : Bx wr wo.heap.size (.int .i64 4) (.int .i64 0) (.string ⟨#[]⟩) := (Bx.new wo _ _ _).keep hci id
            obtain ⟨f0, f1, f2⟩ := hBx.cells
            have hfz := hBx.frozen
            have hcv : (convert 43 9 (.slice oba o.length obc)).run Tryd.prog wr = .ok (.string (txt o)) wr := conv_own hob
            generalize txt o = T1 at HC0 hcv
            have HoW : Hid (∀ o', OwV ((wr.setCell ⟨wo.heap.size, 2, none⟩ (.string T1)).alloc o') w.heap.size (.slice oa acc.length ocap) acc) := Lib.hid (fun o' => ho.keep ((((Ch.alloc (fun k => wo.heap.size ≤ k) wo _).tr (hci.mono (fun _ _ h => h.elim))).tr (Ch.setCell _ _ _ (fun _ => Nat.le_refl _))).tr (Ch.alloc _ _ o')) (fun k hk h => absurd (ho.own k hk).2 (by omega)))
            have HcW : Hid (∀ o', Ch (fun _ => False) w ((wr.setCell ⟨wo.heap.size, 2, none⟩ (.string T1)).alloc o')) := Lib.hid (fun o' => hch.trans ((((Ch.alloc (fun k => wo.heap.size ≤ k) wo _).tr (hci.mono (fun _ _ h => h.elim))).tr (Ch.setCell _ _ _ (fun _ => Nat.le_refl _))).tr (Ch.alloc _ _ o')) (fun j hj h => by omega))
            have HzW : Hid ((wr.setCell ⟨wo.heap.size, 2, none⟩ (.string T1)).heap.size = wr.heap.size) := Lib.hid (by simp [World.setCell])
            clear hBx
            have HCut : Hid (cutK (5 :: r) = if rightB ⟨4, 0, T1⟩ = true then some (⟨4, 0, T1⟩, c) else none) := Lib.hid (HC0.out)
            obtain ⟨zs, hzs⟩ : ∃ zs, acc ++ [(⟨4, 0, T1⟩ : V)] = zs := ⟨_, rfl⟩
            have HZ := Lib.hid hzs
            clear hzs
            cases ht : tupleB zs with
            | true =>
              have HU : Hid (readK cutK fu zs (c) = readAll cutK s0.data.toList) := Lib.hid (by rw [← hu.out, step_true Hns.out HCut.out (by rw [HZ.out]; exact ht), HZ.out])
              have HQ : Hid ((c).length ≤ 1000000 ∧ (c).length < fu ∧ (c).length < S.size) := Lib.hid (by have h9 := HSz.out; have h8 := Hrl.out; simp only [List.length_cons] at h8 h9; have h7 := hu2.out.1; omega)
              have HTt := Lib.hid ht
              clear ht hu
              go_wp2_with (first | (at_builtin; refine wpList_val rfl (.tmp 106) (.tmp 108) rfl w.heap.size (.slice oa acc.length ocap) acc rfl (HoW.out _) wr.heap.size ⟨4, 0, T1⟩ rfl (vrowAt _ _ HzW.out ⟨4, 0, T1⟩) (by omega) (by simp; omega) ?_; intro v2 w2 ho3 hg3; have hch2 : Ch (fun _ => False) w w2 := (HcW.out _).trans hg3 (fun j hj h => absurd (ho.own j h).1 (by omega)); rw [HZ.out] at ho3; clear hg3; obtain ⟨a3, c3, rfl, hr3, -, -⟩ := ho3.rd) | (go_at_call 33; refine (rtuple_any a3 c3 zs w2 hr3).mono ?_; rw [HTt.out]; rintro e w3 ⟨rfl, hb3⟩))
              have hch3 := hch2.tr (Ch.of_new hb3)
              have ho4 := ho3.new hb3
              clear hb3 hch2 ho3 hr3
              go_wp2
              go_roundw
              case rel => exact ⟨c, zs, fu, rfl, ho4, HTt, HQ.out.1, HQ.out.2.1, HU, hch3⟩
              case measure => exact HQ.out.2.2
            | false =>
              have HU : Hid (readAll cutK s0.data.toList = none) := Lib.hid (by rw [← hu.out, step_false Hns.out HCut.out (by rw [HZ.out]; exact ht) HA.out])
              have HTt := Lib.hid ht
              clear ht hu
              go_wp2_with (first | (at_builtin; refine wpList_val rfl (.tmp 106) (.tmp 108) rfl w.heap.size (.slice oa acc.length ocap) acc rfl (HoW.out _) wr.heap.size ⟨4, 0, T1⟩ rfl (vrowAt _ _ HzW.out ⟨4, 0, T1⟩) (by omega) (by simp; omega) ?_; intro v2 w2 ho3 hg3; have hch2 : Ch (fun _ => False) w w2 := (HcW.out _).trans hg3 (fun j hj h => absurd (ho.own j h).1 (by omega)); rw [HZ.out] at ho3; clear hg3; obtain ⟨a3, c3, rfl, hr3, -, -⟩ := ho3.rd) | (go_at_call 33; refine (rtuple_any a3 c3 zs w2 hr3).mono ?_; rw [HTt.out]; rintro e w3 ⟨rfl, hb3⟩))
              go_wp2
              go_ret2
              exact ⟨.inr ⟨HU.out, rfl⟩, (hch2.tr (Ch.of_new hb3)).new⟩
          | false =>
            have HUm := Lib.hid (hu2.out.2.1 rfl)
            have HLc := Lib.hid hu2.out.1
            clear hu2
            cases c with
            | nil =>
              have HF : Hid (readAll cutK s0.data.toList = none) := Lib.hid (by rw [← hu.out, readK_none cutK fu acc _ Hns.out (HCn.out (by rw [← HUm.out, um_nil]))])
              have hs0 : (((txt []).size : Int) == 0) = true := rfl
              generalize txt [] = T at hs0
              go_wp2
              go_ret2
              exact ⟨.inr ⟨HF.out, rfl⟩, HcI.out.new⟩
            | cons b2 q =>
              have g0 : (txt (b2 :: q))[0]? = Option.some b2 := get_of_data _ 0 rfl
              have t0 := run_index (txt (b2 :: q)) .i64 0 0 rfl b2 g0
              have z0 : (((txt (b2 :: q)).size : Int) == 0) = false := by rw [txt_size]; exact beq_eq_false_iff_ne.2 (by simp; omega)
              have hT1 : (1 : Int) ≤ ((txt (b2 :: q)).size : Int) := by rw [txt_size]; simp; omega
              have HTz := Lib.hid (txt_size (b2 :: q))
              clear g0
              by_cases hb : b2 = 0
              · subst hb
                cases q with
                | nil =>
                  have HF : Hid (readAll cutK s0.data.toList = none) := Lib.hid (by rw [← hu.out, readK_none cutK fu acc _ Hns.out (HCn.out (by rw [← HUm.out, um_one]))])
                  have hT2 : ((txt [0]).size : Int) < 2 := by decide
                  generalize txt [0] = T at t0 z0 hT1 HTz hT2
                  go_wp2
                  go_ret2
                  exact ⟨.inr ⟨HF.out, rfl⟩, HcI.out.new⟩
                | cons d q =>
                  have g1 : (txt (0 :: d :: q))[1]? = Option.some d := get_of_data _ 1 rfl
                  have t1 := run_index (txt (0 :: d :: q)) .i64 1 1 rfl d g1
                  have y2 := ext2 0 d q
                  have hT2 : (2 : Int) ≤ ((txt (0 :: d :: q)).size : Int) := by rw [txt_size]; simp; omega
                  clear g1
                  have HQ2 : Hid ((txt q).size < (txt (0 :: d :: q)).size) := Lib.hid (by rw [txt_size, txt_size, List.length_cons, List.length_cons]; omega)
                  have HL2 : Hid (q.length ≤ r.length ∧ q.length + o.length + 1 ≤ 1000000) := Lib.hid (by have := HLc.out; simp at this hcl; omega)
                  clear HLc hcl
                  by_cases hd0 : d = 0
                  · subst hd0
                    have HU2 : Hid (unmark r = some (o, q)) := Lib.hid (by rw [← HUm.out, um_end])
                    clear HUm
                    generalize txt (0 :: 0 :: q) = T at t0 t1 y2 z0 hT1 HTz hT2 HQ2
                    go_wp2
                    go_roundw
                    case rel => exact ⟨q, o, true, rfl, hob, rfl, by have := HL2.out; omega, Lib.hid ⟨HL2.out.1, (fun h => by cases h), fun _ => HU2.out⟩, hci⟩
                    case measure => exact HQ2.out
                  · by_cases hdF : d = 255
                    · subst hdF
                      have HU2 : Hid (um (o ++ [0]) q = unmark r) := Lib.hid (by rw [← um_zero]; exact HUm.out)
                      clear HUm
                      have hol : o.length ≤ 1000000 := by have := HL2.out; omega
                      generalize txt (0 :: 255 :: q) = T at t0 t1 y2 z0 hT1 HTz hT2 HQ2
                      go_wp2_with (at_builtin; refine wpList_bytes rfl (.tmp 98) (.tmp 99) rfl (wo.heap.size + 1) (.slice oba o.length obc) o rfl (hob.keep (Ch.alloc (fun _ => False) _ _) (fun _ _ => id)) wr.heap.size [0] 1 rfl rfl (heap_alloc_new wr _) (by simp; omega) (by simp; omega) ?_; intro v' w1 ho1 hg1)
                      have hci1 : Ch (fun _ => False) (wo.alloc (.cells #[.int .i64 4, .int .i64 0, .string ⟨#[]⟩] 23)) w1 := (hci.tr (Ch.alloc _ _ _)).trans hg1 (fun j hj h => by have := (hob.own j h).1; rw [World.size_alloc] at hj; omega)
                      clear hg1 hob hci
                      go_wp2
                      go_roundw
                      case rel => exact ⟨q, o ++ [0], false, rfl, ho1, rfl, by have := HL2.out; simp; omega, Lib.hid ⟨HL2.out.1, (fun _ => HU2.out), (fun h => by cases h)⟩, hci1⟩
                      case measure => exact HQ2.out
                    · have HF : Hid (readAll cutK s0.data.toList = none) := Lib.hid (by rw [← hu.out, readK_none cutK fu acc _ Hns.out (HCn.out (by rw [← HUm.out, um_bad o d q hd0 hdF]))])
                      have n0 := u8_ne d 0 (by decide) hd0
                      have n1 := u8_ne d 255 (by decide) hdF
                      have m0 : ((d.toNat : Int) == 0) = false := beq_eq_false_iff_ne.2 (by omega)
                      have m1 : ((d.toNat : Int) == 255) = false := beq_eq_false_iff_ne.2 (by omega)
                      have p0 : ((d.toNat : Int) != 0) = true := by rw [bne, m0]; rfl
                      have p1 : ((d.toNat : Int) != 255) = true := by rw [bne, m1]; rfl
                      clear hd0 hdF n0 n1
                      generalize txt (0 :: d :: q) = T at t0 t1 y2 z0 hT1 HTz hT2 HQ2
                      go_wp2
                      go_ret2
                      exact ⟨.inr ⟨HF.out, rfl⟩, HcI.out.new⟩
              · have HU2 : Hid (um (o ++ [b2]) q = unmark r) := Lib.hid (by rw [← um_plain o q b2 hb]; exact HUm.out)
                have y1 := ext1 b2 q
                have n0 := u8_ne b2 0 (by decide) hb
                have m0 : ((b2.toNat : Int) == 0) = false := beq_eq_false_iff_ne.2 (by omega)
                have HQ2 : Hid ((txt q).size < (txt (b2 :: q)).size) := Lib.hid (by rw [txt_size, txt_size, List.length_cons]; omega)
                have HL2 : Hid (q.length ≤ r.length ∧ q.length + o.length + 1 ≤ 1000000) := Lib.hid (by have := HLc.out; simp at this hcl; omega)
                have hol : o.length ≤ 1000000 := by have := HL2.out; omega
                clear HLc hcl HUm hb n0
                generalize txt (b2 :: q) = T at t0 y1 z0 hT1 HTz HQ2
                go_wp2_with (at_builtin; refine wpList_bytes rfl (.tmp 76) (.tmp 79) rfl (wo.heap.size + 1) (.slice oba o.length obc) o rfl (hob.keep (Ch.alloc (fun _ => False) _ _) (fun _ _ => id)) wr.heap.size [b2] 1 rfl rfl (heap_alloc_new wr _) (by simp; omega) (by simp; omega) ?_; intro v' w1 ho1 hg1)
                have hci1 : Ch (fun _ => False) (wo.alloc (.cells #[.int .i64 4, .int .i64 0, .string ⟨#[]⟩] 23)) w1 := (hci.tr (Ch.alloc _ _ _)).trans hg1 (fun j hj h => by have := (hob.own j h).1; rw [World.size_alloc] at hj; omega)
                clear hg1 hob hci
                go_wp2
                go_roundw
                case rel => exact ⟨q, o ++ [b2], false, rfl, ho1, rfl, by have := HL2.out; simp; omega, Lib.hid ⟨HL2.out.1, (fun _ => HU2.out), (fun h => by cases h)⟩, hci1⟩
                case measure => exact HQ2.out
      have n0 := u8_ne b 1 (by decide) h0
      have n1 := u8_ne b 2 (by decide) h1
      have n2 := u8_ne b 3 (by decide) h2
      have n3 := u8_ne b 4 (by decide) h3
      have n4 := u8_ne b 5 (by decide) h4
      have nb := b.toNat_lt
      have HF : Hid (readAll cutK s0.data.toList = none) := Lib.hid (by rw [← hu.out, readK_none cutK fu acc _ Hns.out (by simp [cutK, h0, h1, h2, h3, h4])])
      obtain ⟨Z, hZ⟩ : ∃ Z : Int, (b.toNat : Int) - 1 = Z := ⟨_, rfl⟩
      have nb0 : (0 : Int) ≤ (b.toNat : Int) := by omega
      have nb1 : (b.toNat : Int) ≤ 255 := by omega
      have kw : IntKind.i64.wrap ((b.toNat : Int) - 1) = Z := by rw [IntWalk.i64_in _ (by omega)]; exact hZ
      have m1 : (Z == 1) = false := beq_eq_false_iff_ne.2 (by omega)
      have m2 : (Z == 2) = false := beq_eq_false_iff_ne.2 (by omega)
      have m3 : (Z == 3) = false := beq_eq_false_iff_ne.2 (by omega)
      have m4 : (Z == 4) = false := beq_eq_false_iff_ne.2 (by omega)
      obtain ⟨zs, hzs⟩ : ∃ zs, acc ++ [(⟨Z, 0, ⟨#[]⟩⟩ : V)] = zs := ⟨_, rfl⟩
      have HTt : Hid (tupleB zs = false) := Lib.hid (by
        rw [← hzs]
        unfold tupleB
        rw [List.all_append]
        have : rightB ⟨Z, 0, ⟨#[]⟩⟩ = false := by
          unfold rightB
          rw [if_neg (by simp; omega), if_neg (by simp; omega), if_neg (by simp; omega), if_neg (by simp; omega)]
        simp [this])
      have HZ := Lib.hid hzs
      clear hzs h0 h1 h2 h3 h4 n0 n1 n2 n3 n4
      generalize txt (b :: r) = S at r0 x1 hS hS1 HSz
      go_wp2_with (first | (at_builtin; refine wpList_val rfl (.tmp 106) (.tmp 108) rfl w.heap.size (.slice oa acc.length ocap) acc rfl (ho.keep ((Ch.alloc (fun _ => False) _ _).tr (Ch.alloc _ _ _)) (fun _ _ => id)) (wr.heap.size + 1) ⟨Z, 0, ⟨#[]⟩⟩ rfl (vrow2 _ _ ⟨Z, 0, ⟨#[]⟩⟩) (by omega) (by simp; omega) ?_; intro v2 w2 ho3 hg3; have hch2 : Ch (fun _ => False) w w2 := ((hch.tr (Ch.alloc _ _ _)).tr (Ch.alloc _ _ _)).trans hg3 (fun j hj h => absurd (ho.own j h).1 (by omega)); rw [HZ.out] at ho3; clear hg3; obtain ⟨a3, c3, rfl, hr3, -, -⟩ := ho3.rd) | (go_at_call 33; refine (rtuple_any a3 c3 zs w2 hr3).mono ?_; rw [HTt.out]; rintro e w3 ⟨rfl, hb3⟩))
      go_ret2
      exact ⟨.inr ⟨HF.out, rfl⟩, (hch2.tr (Ch.of_new hb3)).new⟩
end Go.Proofs.YtmlllgcmhapadaaDoor
