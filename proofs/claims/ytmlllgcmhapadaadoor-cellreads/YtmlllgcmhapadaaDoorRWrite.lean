/- The walk of the document's Write. -/
import Derived.Test.YtmlllgcmhapadaaDoorWrite
namespace Go.Proofs.YtmlllgcmhapadaaDoor
open Go Go.RowKit
attribute [-go_sem] Builtin.append_

set_option maxRecDepth 100000 in
set_option maxHeartbeats 8000000 in
theorem rwrite_yes (w : World) (a : Option Addr) (cap : Nat) (xs : List V) (hr : Rd w a xs) (hT : tupleB xs = true) :
    Calls Tryd.prog 16 #[.slice a xs.length cap] w fun e w' => e = .returned (.tuple #[.string (txt (writeL xs)), .bool true]) ∧ Below w.heap.size w w' := by
  have P := rtuple_any a cap xs w hr
  rw [hT] at P
  have hall : xs.all rightB = true := by unfold tupleB at hT; rw [Bool.and_eq_true] at hT; exact hT.2
  have hlen : xs.length ≤ 64 := by unfold tupleB at hT; rw [Bool.and_eq_true] at hT; simpa using hT.1
  have HP := Lib.hid P
  have HA := Lib.hid hall
  clear P hT hall
  go_enter Tryd.func16, Tryd.ntmps16
  go_wp2_with (go_at_call 33; (with_reducible refine HP.out.mono ?_); rintro e w0 ⟨rfl, hb0⟩)
  go_loopw [4, 5] (fun x i wr => ∃ (ii : Nat), i = .int .i64 (ii : Int) ∧ ii ≤ xs.length ∧ OwB wr w.heap.size x (writeL (xs.take ii)) ∧ Ch (fun _ => False) w wr) (fun _ i _ => xs.length - (intOf i).toNat)
  case atStart => exact ⟨0, rfl, Nat.zero_le _, OwB.nil _ _, Ch.of_new hb0⟩
  case round =>
    clear hb0
    obtain ⟨ii, rfl, hi, ho, hch⟩ := hrel
    have hz := hch.size
    by_cases hlt : ii < xs.length
    · have hlt' : (ii : Int) < (xs.length : Int) := by omega
      have hi0 : (0 : Int) ≤ (ii : Int) := by omega
      obtain ⟨b, off, rfl, hc1, hc2, hc3⟩ := (hr.keep hch (fun _ _ => id)) ii hlt
      have hy := right_at HA.out ii hlt
      have hL := writeL_len (xs.take ii) (right_take HA.out ii)
      have hL2 : (writeL (xs.take ii)).length ≤ 128192 := by rw [List.length_take] at hL; omega
      clear hL
      have hK : writeL (xs.take (ii + 1)) = writeL (xs.take ii) ++ writeV (at_ xs ii) := by rw [take_succ_v xs ii hlt, writeL_snoc]
      have HK := Lib.hid hK
      clear hK
      generalize at_ xs ii = y at hc1 hc2 hc3 HK hy
      generalize writeL (xs.take ii) = l at ho hL2 HK
      obtain ⟨k, n, s⟩ := y
      simp only at hc1 hc2 hc3
      rcases right_cases hy with ⟨h1, h2, h3⟩ | ⟨h1, h2⟩ | ⟨h1, h2, h3⟩ | ⟨h1, h2, h3⟩ | ⟨h1, h2, h3⟩
      · simp only at h1 h2 h3; subst h1 h2 h3
        have HK2 := Lib.hid (show writeV ⟨0, 0, ByteArray.empty⟩ = [0] from rfl)
        go_wp2_with (at_builtin; refine wpList_bytes rfl (.tmp 20) (.tmp 24) rfl w.heap.size u4 _ rfl (ho.keep ((Ch.alloc (fun _ => False) _ _).tr (Ch.alloc _ _ _)) (fun _ _ => id)) (wr.heap.size + 1) [0] 1 rfl rfl (row2 _ _ [0]) (by omega) (by simp; omega) ?_; intro v1 w1 ho1 hg1; obtain ⟨⟨f0, f1, f2⟩, hch1⟩ := after_box hch ho hg1; have hz1 := hch1.size; have HBx := Lib.hid (after_bx ho hg1); clear hg1)
        go_wp2
        go_roundw
        case rel => exact ⟨ii + 1, by go_num, by omega, by rw [HK.out, HK2.out]; exact ho1, hch1⟩
        case measure => simp [intOf]; omega
      · simp only at h1 h2; subst h1 h2
        have HK2 := Lib.hid (show writeV ⟨1, n, ByteArray.empty⟩ = 1 :: be8 (numW n) from rfl)
        go_wp2_with (first | (at_builtin; refine wpList_bytes rfl (.tmp 20) (.tmp 24) rfl w.heap.size u4 _ rfl (ho.keep ((Ch.alloc (fun _ => False) _ _).tr (Ch.alloc _ _ _)) (fun _ _ => id)) (wr.heap.size + 1) [1] 1 rfl rfl (row2 _ _ [1]) (by omega) (by simp; omega) ?_; intro v1 w1 ho1 hg1; obtain ⟨⟨f0, f1, f2⟩, hch1⟩ := after_box hch ho hg1; have hz1 := hch1.size; have HBx := Lib.hid (after_bx ho hg1); clear hg1) | (go_at_call 34; rw [wrapW n]; (with_reducible refine (eight_any (numW n) (numW_lt n) w1).mono ?_); rintro e w2 ⟨v2, rfl, ho2, hb2⟩; have hoo := ho1.keep (Ch.of_new (S := fun _ => False) hb2) (fun _ _ => id); have hch2 := hch1.tr (Ch.of_new hb2); have hz2 := hch2.size; clear hb2) | (at_builtin; refine wpList_src rfl (.tmp 30) (.tmp 34) rfl w.heap.size v1 (l ++ [1]) rfl hoo w1.heap.size v2 (be8 (numW n)) rfl ho2 (by rw [be8_length]; decide) (by rw [be8_length]; simp; omega) hz2 ?_; intro v3 w3 ho3 hg3; have hch3 : Ch (fun _ => False) w w3 := hch2.trans hg3 (fun j hj h => absurd (hoo.own j h).1 (by omega)); clear hg3))
        go_wp2
        go_roundw
        case rel => exact ⟨ii + 1, by go_num, by omega, by rw [HK.out, HK2.out]; simpa using ho3, hch3⟩
        case measure => simp [intOf]; omega
      · simp only at h1 h2 h3; subst h1 h3
        rcases h2 with rfl | rfl
        · have HK2 := Lib.hid (show writeV ⟨2, 0, ByteArray.empty⟩ = [2, 0] from rfl)
          go_wp2_with (first | (at_builtin; refine wpList_bytes rfl (.tmp 20) (.tmp 24) rfl w.heap.size u4 _ rfl (ho.keep ((Ch.alloc (fun _ => False) _ _).tr (Ch.alloc _ _ _)) (fun _ _ => id)) (wr.heap.size + 1) [2] 1 rfl rfl (row2 _ _ [2]) (by omega) (by simp; omega) ?_; intro v1 w1 ho1 hg1; obtain ⟨⟨f0, f1, f2⟩, hch1⟩ := after_box hch ho hg1; have hz1 := hch1.size; have HBx := Lib.hid (after_bx ho hg1); clear hg1) | (at_builtin; refine wpList_bytes rfl (.tmp 38) (.tmp 42) rfl w.heap.size v1 (l ++ [2]) rfl (ho1.keep (Ch.alloc (fun _ => False) _ _) (fun _ _ => id)) w1.heap.size [0] 1 rfl rfl (heap_alloc_new w1 _) (by simp; omega) (by simp; omega) ?_; intro v2 w2 ho2 hg2; have hch2 : Ch (fun _ => False) w w2 := (hch1.tr (Ch.alloc _ _ _)).trans hg2 (fun j hj h => absurd (ho1.own j h).1 (by omega)); clear hg2))
          go_wp2
          go_roundw
          case rel => exact ⟨ii + 1, by go_num, by omega, by rw [HK.out, HK2.out]; simpa using ho2, hch2⟩
          case measure => simp [intOf]; omega
        · have HK2 := Lib.hid (show writeV ⟨2, 1, ByteArray.empty⟩ = [2, 1] from rfl)
          go_wp2_with (first | (at_builtin; refine wpList_bytes rfl (.tmp 20) (.tmp 24) rfl w.heap.size u4 _ rfl (ho.keep ((Ch.alloc (fun _ => False) _ _).tr (Ch.alloc _ _ _)) (fun _ _ => id)) (wr.heap.size + 1) [2] 1 rfl rfl (row2 _ _ [2]) (by omega) (by simp; omega) ?_; intro v1 w1 ho1 hg1; obtain ⟨⟨f0, f1, f2⟩, hch1⟩ := after_box hch ho hg1; have hz1 := hch1.size; have HBx := Lib.hid (after_bx ho hg1); clear hg1) | (at_builtin; refine wpList_bytes rfl (.tmp 38) (.tmp 42) rfl w.heap.size v1 (l ++ [2]) rfl (ho1.keep (Ch.alloc (fun _ => False) _ _) (fun _ _ => id)) w1.heap.size [1] 1 rfl rfl (heap_alloc_new w1 _) (by simp; omega) (by simp; omega) ?_; intro v2 w2 ho2 hg2; have hch2 : Ch (fun _ => False) w w2 := (hch1.tr (Ch.alloc _ _ _)).trans hg2 (fun j hj h => absurd (ho1.own j h).1 (by omega)); clear hg2))
          go_wp2
          go_roundw
          case rel => exact ⟨ii + 1, by go_num, by omega, by rw [HK.out, HK2.out]; simpa using ho2, hch2⟩
          case measure => simp [intOf]; omega
      · simp only at h1 h2 h3; subst h1 h2
        have HK2 := Lib.hid (show writeV ⟨3, 0, s⟩ = 3 :: ([UInt8.ofNat (s.size / 256), UInt8.ofNat s.size] ++ s.data.toList) from rfl)
        obtain ⟨x1, x2⟩ := size_bytes s h3
        have h3' : (s.size : Int) ≤ 1000 := by omega
        generalize UInt8.ofNat (s.size / 256) = b1 at HK2 x1
        generalize UInt8.ofNat s.size = b2 at HK2 x2
        go_wp2_with (first | (at_builtin; refine wpList_bytes rfl (.tmp 20) (.tmp 24) rfl w.heap.size u4 _ rfl (ho.keep ((Ch.alloc (fun _ => False) _ _).tr (Ch.alloc _ _ _)) (fun _ _ => id)) (wr.heap.size + 1) [3] 1 rfl rfl (row2 _ _ [3]) (by omega) (by simp; omega) ?_; intro v1 w1 ho1 hg1; obtain ⟨⟨f0, f1, f2⟩, hch1⟩ := after_box hch ho hg1; have hz1 := hch1.size; have HBx := Lib.hid (after_bx ho hg1); clear hg1) | (at_builtin; refine wpList_bytes rfl (.tmp 47) (.tmp 58) rfl w.heap.size v1 (l ++ [3]) rfl (ho1.keep (Ch.alloc (fun _ => False) _ _) (fun _ _ => id)) w1.heap.size [b1, b2] 2 rfl rfl (heap_alloc_new w1 _) (by simp; omega) (by simp; omega) ?_; intro v2 w2 ho2 hg2; have hch2 : Ch (fun _ => False) w w2 := (hch1.tr (Ch.alloc _ _ _)).trans hg2 (fun j hj h => absurd (ho1.own j h).1 (by omega)); have hz2 := hch2.size; obtain ⟨_, _, g2⟩ := (own_ne HBx.out ho1 hg2).cells; clear hg2) | (at_builtin; refine wpList_text rfl (.tmp 60) (.tmp 62) rfl w.heap.size v2 _ rfl ho2 s rfl (by simp; omega) hz2 ?_; intro v3 w3 ho3 hg3; have hch3 : Ch (fun _ => False) w w3 := hch2.trans hg3 (fun j hj h => absurd (ho2.own j h).1 (by omega)); clear hg3))
        go_wp2
        go_roundw
        case rel => exact ⟨ii + 1, by go_num, by omega, by rw [HK.out, HK2.out]; simpa using ho3, hch3⟩
        case measure => simp [intOf]; omega
      · simp only at h1 h2 h3; subst h1 h2
        have HK2 := Lib.hid (show writeV ⟨4, 0, s⟩ = 4 :: ([UInt8.ofNat (s.size / 256), UInt8.ofNat s.size] ++ s.data.toList) from rfl)
        obtain ⟨x1, x2⟩ := size_bytes s h3
        have h3' : (s.size : Int) ≤ 1000 := by omega
        generalize UInt8.ofNat (s.size / 256) = b1 at HK2 x1
        generalize UInt8.ofNat s.size = b2 at HK2 x2
        go_wp2_with (first | (at_builtin; refine wpList_bytes rfl (.tmp 20) (.tmp 24) rfl w.heap.size u4 _ rfl (ho.keep ((Ch.alloc (fun _ => False) _ _).tr (Ch.alloc _ _ _)) (fun _ _ => id)) (wr.heap.size + 1) [4] 1 rfl rfl (row2 _ _ [4]) (by omega) (by simp; omega) ?_; intro v1 w1 ho1 hg1; obtain ⟨⟨f0, f1, f2⟩, hch1⟩ := after_box hch ho hg1; have hz1 := hch1.size; have HBx := Lib.hid (after_bx ho hg1); clear hg1) | (at_builtin; refine wpList_bytes rfl (.tmp 47) (.tmp 58) rfl w.heap.size v1 (l ++ [4]) rfl (ho1.keep (Ch.alloc (fun _ => False) _ _) (fun _ _ => id)) w1.heap.size [b1, b2] 2 rfl rfl (heap_alloc_new w1 _) (by simp; omega) (by simp; omega) ?_; intro v2 w2 ho2 hg2; have hch2 : Ch (fun _ => False) w w2 := (hch1.tr (Ch.alloc _ _ _)).trans hg2 (fun j hj h => absurd (ho1.own j h).1 (by omega)); have hz2 := hch2.size; obtain ⟨_, _, g2⟩ := (own_ne HBx.out ho1 hg2).cells; clear hg2) | (at_builtin; refine wpList_text rfl (.tmp 60) (.tmp 62) rfl w.heap.size v2 _ rfl ho2 s rfl (by simp; omega) hz2 ?_; intro v3 w3 ho3 hg3; have hch3 : Ch (fun _ => False) w w3 := hch2.trans hg3 (fun j hj h => absurd (ho2.own j h).1 (by omega)); clear hg3))
        go_wp2
        go_roundw
        case rel => exact ⟨ii + 1, by go_num, by omega, by rw [HK.out, HK2.out]; simpa using ho3, hch3⟩
        case measure => simp [intOf]; omega
    · have hlt' : (xs.length : Int) ≤ (ii : Int) := by omega
      have hcv := conv_own ho
      have e : writeL (xs.take ii) = writeL xs := by rw [List.take_of_length_le (by omega)]
      have HE := Lib.hid e
      clear e
      go_wp2
      go_ret2
      exact ⟨by rw [HE.out]; rfl, hch.new⟩

set_option maxRecDepth 100000 in
set_option maxHeartbeats 1000000 in
theorem rwrite_no (w : World) (a : Option Addr) (cap : Nat) (xs : List V) (hr : Rd w a xs) (hT : tupleB xs = false) :
    Calls Tryd.prog 16 #[.slice a xs.length cap] w fun e w' => e = .returned (.tuple #[.string ByteArray.empty, .bool false]) ∧ Below w.heap.size w w' := by
  have P := rtuple_any a cap xs w hr
  rw [hT] at P
  have HP := Lib.hid P
  clear P hT
  go_enter Tryd.func16, Tryd.ntmps16
  go_wp2_with (go_at_call 33; (with_reducible refine HP.out.mono ?_); rintro e w0 ⟨rfl, hb0⟩)
  go_ret2
  exact ⟨rfl, hb0⟩
theorem rwrite_any (w : World) (a : Option Addr) (cap : Nat) (xs : List V) (hr : Rd w a xs) :
    Calls Tryd.prog 16 #[.slice a xs.length cap] w fun e w' => e = .returned (.tuple #[.string (writeT xs), .bool (tupleB xs)]) ∧ Below w.heap.size w w' := by
  unfold writeT
  cases h : tupleB xs with
  | true => rw [if_pos rfl]; exact rwrite_yes w a cap xs hr h
  | false => rw [if_neg Bool.false_ne_true]; exact rwrite_no w a cap xs hr h
end Go.Proofs.YtmlllgcmhapadaaDoor
