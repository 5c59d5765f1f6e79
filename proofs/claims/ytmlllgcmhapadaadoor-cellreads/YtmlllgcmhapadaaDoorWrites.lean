/- The walks of the document's Same and of the law CellWrites. -/
import Derived.Test.YtmlllgcmhapadaaDoorRWrite
import Derived.Test.YtmlllgcmhapadaaDoorRKey
import Derived.Test.YtmlllgcmhapadaaDoorCodec
import Derived.Test.YtmlllgcmhapadaaDoorJoins
namespace Go.Proofs.YtmlllgcmhapadaaDoor
open Go Go.RowKit

set_option maxRecDepth 100000 in
set_option maxHeartbeats 1000000 in
/-- Two lists of the same values are the same. -/
theorem same_any (a b : Option Addr) (c1 c2 : Nat) (xs : List V) (hn : xs.length ≤ 1000) (w : World) (ha : Rd w a xs) (hb : Rd w b xs) :
    Calls Tryd.prog 21 #[.slice a xs.length c1, .slice b xs.length c2] w fun e w' => e = .returned (.bool true) ∧ Below w.heap.size w w' := by
  go_enter Tryd.func21, Tryd.ntmps21
  go_wp2
  go_loopw [5] (fun i wr => ∃ (ii : Nat), i = .int .i64 (ii : Int) ∧ ii ≤ xs.length ∧ Ch (fun _ => False) w wr) (fun i _ => xs.length - (intOf i).toNat)
  case atStart => exact ⟨0, rfl, Nat.zero_le _, Ch.refl _ _⟩
  case round =>
    obtain ⟨ii, rfl, hi, hch⟩ := hrel
    by_cases hlt : ii < xs.length
    · have hlt' : (ii : Int) < (xs.length : Int) := by omega
      have hi0 : (0 : Int) ≤ (ii : Int) := by omega
      obtain ⟨b1, off1, rfl, p1, p2, p3⟩ := (ha.keep hch (fun _ _ => id)) ii hlt
      obtain ⟨b2, off2, rfl, q1, q2, q3⟩ := (hb.keep hch (fun _ _ => id)) ii hlt
      generalize at_ xs ii = y at p1 p2 p3 q1 q2 q3
      obtain ⟨k, n, s⟩ := y
      simp only at p1 p2 p3 q1 q2 q3
      have hcd : ∀ n, Ch (fun _ => False) w (wr.drewN n) := fun n => hch.tr (Ch.drewN _ _ n)
      clear hch
      go_wp2_with fail
      go_quiet (fail)
      go_wp2
      go_roundw
      case rel => exact ⟨ii + 1, by go_num, by omega, hcd _⟩
      case measure => simp [intOf]; omega
    · have hlt' : (xs.length : Int) ≤ (ii : Int) := by omega
      go_wp2
      go_ret
      exact ⟨rfl, hch.new⟩
theorem few1 (w : World) (l1 : Sl) (h1 : Rd w l1.a l1.xs) (m1 : l1.xs.length ≤ maxLen) :
    Calls Tryd.prog 14 #[.slice (some ⟨w.heap.size, 0, none⟩) 1 1] (w.alloc (.cells #[l1.val] 27)) fun e w' => e = .returned (.bool (fewB l1.xs)) ∧ Below w.heap.size w w' := by
  have hn := heap_alloc_new w (.cells #[l1.val] 27)
  have hc := Ch.alloc (fun _ => False) w (.cells #[l1.val] 27)
  refine (few_any w.heap.size 1 [l1] (by simp) _ (fun i hi => ?_)).mono ?_
  · obtain rfl : i = 0 := by simp at hi; omega
    exact ⟨cell_of_row _ _ _ _ _ _ hn, h1.keep hc (fun _ _ => id), m1⟩
  · rintro e w' ⟨rfl, hb⟩
    exact ⟨ret_bool (by simp [fewL]), (hc.tr (Ch.of_new hb)).new⟩
theorem writeT_size (xs : List V) : (writeT xs).size ≤ 128192 := by
  unfold writeT
  split
  · rename_i h
    have hp := tuple_parts h
    have h1 := writeL_len xs hp.2
    rw [txt_size]
    omega
  · exact Nat.zero_le _

set_option maxRecDepth 100000 in
set_option maxHeartbeats 4000000 in
theorem cellWrites_any (a : Option Addr) (c : Nat) (xs : List V) (w : World) (hE : Env w) (hx : Rd w a xs) (okx : ∀ x ∈ xs, x.ok) (mx : xs.length ≤ maxLen) :
    Calls Tryd.prog 4 #[.slice a xs.length c] w fun e w' => e = .returned (.bool true) ∧ Below w.heap.size w w' := by
  have HE := Lib.hid hE
  have HX := Lib.hid (And.intro hx okx)
  have HF : Hid (∀ W, Below w.heap.size w W → Calls Tryd.prog 14 #[.slice (some ⟨W.heap.size, 0, none⟩) 1 1] (W.alloc (.cells #[.slice a xs.length c] 27)) fun e w' => e = .returned (.bool (fewB xs)) ∧ Below W.heap.size W w') :=
    Lib.hid (fun W hb => few1 W ⟨a, c, xs⟩ (hx.new hb) mx)
  unfold maxLen at mx
  clear hE hx okx
  cases hf : fewB xs with
  | false =>
    rw [hf] at HF
    clear hf
    go_enter Tryd.func4, Tryd.ntmps4
    go_wp2_with fail
    refine (awake_any w HE.out).mono ?_
    rintro e w1 ⟨rfl, hb1⟩
    go_wp2_with fail
    refine (HF.out w1 hb1).mono ?_
    rintro e w2 ⟨rfl, hb2⟩
    have hB2 := hb1.trans (hb2.mono hb1.size)
    go_wp2
    go_ret
    exact ⟨rfl, hB2⟩
  | true =>
    rw [hf] at HF
    have hxl : xs.length ≤ 70 := by unfold fewB at hf; rw [Bool.and_eq_true] at hf; simpa using hf.1
    clear hf
    go_enter Tryd.func4, Tryd.ntmps4
    go_wp2_with fail
    refine (awake_any w HE.out).mono ?_
    rintro e w1 ⟨rfl, hb1⟩
    go_wp2_with fail
    refine (HF.out w1 hb1).mono ?_
    rintro e w2 ⟨rfl, hb2⟩
    have hB2 := hb1.trans (hb2.mono hb1.size)
    clear hb1 hb2
    obtain ⟨m, hm⟩ := HE.out.1
    have HM := Lib.hid hm
    clear hm
    go_wp2_with fail
    refine (write_any w2 a c xs (HX.out.1.new hB2)).mono ?_
    rintro e w3 ⟨rfl, hb3⟩
    have hB3 := hB2.trans (hb3.mono hB2.size)
    clear hB2 hb3
    go_wp2_with fail
    refine (rwrite_any w3 a c xs (HX.out.1.new hB3)).mono ?_
    rintro e w4 ⟨rfl, hb4⟩
    have hB4 := hB3.trans (hb4.mono hB3.size)
    clear hB3 hb4
    go_wp2_with fail
    refine (key_any m w4 ((Ch.of_new (S := fun _ => False) hB4).cell HM.out id) a c xs (HX.out.1.new hB4) HX.out.2).mono ?_
    rintro e w5 ⟨rfl, hb5⟩
    have hB5 := hB4.trans (hb5.mono hB4.size)
    clear hB4 hb5
    go_wp2_with fail
    refine (rkey_any w5 a c xs (HX.out.1.new hB5) HX.out.2).mono ?_
    rintro e w6 ⟨rfl, hb6⟩
    have hB6 := hB5.trans (hb6.mono hB5.size)
    clear hB5 hb6
    cases ht : tupleB xs with
    | false =>
      clear ht
      generalize writeT xs = s
      generalize keyT xs = k
      go_wp2
      go_ret
      exact ⟨rfl, hB6⟩
    | true =>
      have HR1 := Lib.hid (read_write xs ht HX.out.2)
      have HR2 := Lib.hid (back_key xs ht HX.out.2)
      have HS := Lib.hid (And.intro (show writeT xs = txt (writeL xs) by unfold writeT; rw [if_pos ht]) (show keyT xs = txt (keyL xs) by unfold keyT; rw [if_pos ht]))
      have hs1 := Lib.hid (writeT_size xs)
      have hs2 := Lib.hid (keyT_size xs)
      clear ht
      generalize writeT xs = s at HS hs1
      generalize keyT xs = k at HS hs2
      go_wp2_with fail
      refine (Read_any s (by have := hs1.out; omega) w6).mono ?_
      rw [HS.out.1, txt_data, HR1.out]
      rintro e w7 ⟨⟨ys, v, h1, rfl, h3⟩ | ⟨h1, rfl⟩, hb7⟩
      · cases h1
        have hB7 := hB6.trans (hb7.mono hB6.size)
        clear hB6 hb7
        go_wp2_with fail
        refine (Back_any k (by have := hs2.out; omega) w7).mono ?_
        rw [HS.out.2, txt_data, HR2.out]
        rintro e w8 ⟨⟨ys, v', h1, rfl, h4⟩ | ⟨h1, rfl⟩, hb8⟩
        · cases h1
          have hB8 := hB7.trans (hb8.mono hB7.size)
          have h3' := h3.new hb8
          clear hB7 hb8 h3
          obtain ⟨a1, c1, rfl, r1, -, -⟩ := h3'.rd
          obtain ⟨a2, c2, rfl, r2, -, -⟩ := h4.rd
          clear h3' h4
          have HR := Lib.hid (And.intro r1 r2)
          clear r1 r2
          go_wp2_with fail
          refine (same_any a1 a c1 c xs (by omega) w8 HR.out.1 (HX.out.1.new hB8)).mono ?_
          rintro e w9 ⟨rfl, hb9⟩
          have hB9 := hB8.trans (hb9.mono hB8.size)
          go_wp2_with fail
          refine (same_any a2 a c2 c xs (by omega) w9 (HR.out.2.new hb9) (HX.out.1.new hB9)).mono ?_
          rintro e w10 ⟨rfl, hb10⟩
          have hB10 := hB9.trans (hb10.mono hB9.size)
          clear hb9 hB8 hB9 hb10
          go_wp2
          go_ret
          exact ⟨rfl, hB10⟩
        · cases h1
      · cases h1
end Go.Proofs.YtmlllgcmhapadaaDoor
