/- The walk of Key. -/
import Derived.Test.YtmlllgcmhapadaaDoorSign
namespace Go.Proofs.YtmlllgcmhapadaaDoor
open Go Go.RowKit
attribute [-go_sem] Builtin.append_


set_option maxRecDepth 100000 in
set_option maxHeartbeats 8000000 in
theorem key_yes (m : Int) (w : World) (hm : w.cell? ⟨1, 0, none⟩ = some (.int .i64 m)) (a : Option Addr) (cap : Nat) (xs : List V) (hr : Rd w a xs) (hok : ∀ y ∈ xs, y.ok) (hT : tupleB xs = true) :
    Calls Tryd.prog 17 #[.slice a xs.length cap] w fun e w' => e = .returned (.tuple #[.string (txt (keyL xs)), .bool true]) ∧ Below w.heap.size w w' := by
  have P := isTuple_any a cap xs w hr
  rw [hT] at P
  have hall : xs.all rightB = true := by unfold tupleB at hT; rw [Bool.and_eq_true] at hT; exact hT.2
  have hlen : xs.length ≤ 64 := by unfold tupleB at hT; rw [Bool.and_eq_true] at hT; simpa using hT.1
  have HP := Lib.hid P
  have HA := Lib.hid hall
  have HO := Lib.hid hok
  clear P hT hall hok
  go_enter Tryd.func17, Tryd.ntmps17
  go_wp2_with (go_at_call 31; (with_reducible refine HP.out.mono ?_); rintro e w0 ⟨rfl, hb0⟩)
  go_loopw [4, 12] (fun x i wr => ∃ (ii : Nat), i = .int .i64 (ii : Int) ∧ ii ≤ xs.length ∧ OwB wr w.heap.size x (keyL (xs.take ii)) ∧ Ch (fun _ => False) w wr) (fun _ i _ => xs.length - (intOf i).toNat)
  case atStart => exact ⟨0, rfl, Nat.zero_le _, OwB.nil _ _, Ch.of_new hb0⟩
  case round =>
    clear hb0
    obtain ⟨ii, rfl, hi, ho, hch⟩ := hrel
    have hz := hch.size
    by_cases hlt : ii < xs.length
    · have hlt' : (ii : Int) < (xs.length : Int) := by omega
      have hi0 : (0 : Int) ≤ (ii : Int) := by omega
      obtain ⟨b, off, rfl, hc1, hc2, hc3⟩ := (hr.keep hch (fun _ _ => id)) ii hlt
      have hy := right_at HA.out ii hlt
      have hyo := ok_at HO.out ii hlt
      have hL := keyL_len (xs.take ii) (right_take HA.out ii)
      have hL2 : (keyL (xs.take ii)).length ≤ 128192 := by rw [List.length_take] at hL; omega
      clear hL
      have hK : keyL (xs.take (ii + 1)) = keyL (xs.take ii) ++ keyV (at_ xs ii) := by rw [take_succ_v xs ii hlt, keyL_snoc]
      have HK := Lib.hid hK
      clear hK
      generalize at_ xs ii = y at hc1 hc2 hc3 HK hy hyo
      generalize keyL (xs.take ii) = l at ho hL2 HK
      obtain ⟨k, n, s⟩ := y
      simp only at hc1 hc2 hc3
      have HYO := Lib.hid (show -9223372036854775808 ≤ n ∧ n ≤ 9223372036854775807 from ⟨hyo.2.2.1, hyo.2.2.2⟩)
      clear hyo
      rcases right_cases hy with ⟨h1, h2, h3⟩ | ⟨h1, h2⟩ | ⟨h1, h2, h3⟩ | ⟨h1, h2, h3⟩ | ⟨h1, h2, h3⟩
      · simp only at h1 h2 h3; subst h1 h2 h3
        have HK2 := Lib.hid (show keyV ⟨0, 0, ByteArray.empty⟩ = [1] from rfl)
        go_wp2_with (at_builtin; refine wpList_bytes rfl (.tmp 16) (.tmp 21) rfl w.heap.size u4 _ rfl (ho.keep ((Ch.alloc (fun _ => False) _ _).tr (Ch.alloc _ _ _)) (fun _ _ => id)) (wr.heap.size + 1) [1] 1 rfl rfl (row2 _ _ [1]) (by omega) (by simp; omega) ?_; intro v1 w1 ho1 hg1; obtain ⟨⟨f0, f1, f2⟩, hch1⟩ := after_box hch ho hg1; have hz1 := hch1.size; clear hg1)
        go_roundw
        case rel => exact ⟨ii + 1, by go_num, by omega, by rw [HK.out, HK2.out]; exact ho1, hch1⟩
        case measure => simp [intOf]; omega
      · simp only at h1 h2; subst h1 h2
        have HK2 := Lib.hid (show keyV ⟨1, n, ByteArray.empty⟩ = 2 :: be8 (numK n) from rfl)
        go_wp2_with (first | (at_builtin; refine wpList_bytes rfl (.tmp 16) (.tmp 21) rfl w.heap.size u4 _ rfl (ho.keep ((Ch.alloc (fun _ => False) _ _).tr (Ch.alloc _ _ _)) (fun _ _ => id)) (wr.heap.size + 1) [2] 1 rfl rfl (row2 _ _ [2]) (by omega) (by simp; omega) ?_; intro v1 w1 ho1 hg1; obtain ⟨⟨f0, f1, f2⟩, hch1⟩ := after_box hch ho hg1; have hz1 := hch1.size; clear hg1) | (go_at_call 32; rw [xorK n HYO.out.1 HYO.out.2]; (with_reducible refine (appendNumber_any v1 (l ++ [2]) w.heap.size (numK n) (numK_lt n HYO.out.2) w1 hz1 ho1 (by simp; omega)).mono ?_); rintro e w2 ⟨v2, rfl, ho2, hc2'⟩; have hch2 : Ch (fun _ => False) w w2 := hch1.trans hc2' (fun j hj h => by omega); clear hc2'))
        go_roundw
        case rel => exact ⟨ii + 1, by go_num, by omega, by rw [HK.out, HK2.out]; simpa using ho2, hch2⟩
        case measure => simp [intOf]; omega
      · simp only at h1 h2 h3; subst h1 h3
        rcases h2 with rfl | rfl
        · have HK2 := Lib.hid (show keyV ⟨2, 0, ByteArray.empty⟩ = [3, 0] from rfl)
          go_wp2_with (first | (at_builtin; refine wpList_bytes rfl (.tmp 16) (.tmp 21) rfl w.heap.size u4 _ rfl (ho.keep ((Ch.alloc (fun _ => False) _ _).tr (Ch.alloc _ _ _)) (fun _ _ => id)) (wr.heap.size + 1) [3] 1 rfl rfl (row2 _ _ [3]) (by omega) (by simp; omega) ?_; intro v1 w1 ho1 hg1; obtain ⟨⟨f0, f1, f2⟩, hch1⟩ := after_box hch ho hg1; have hz1 := hch1.size; clear hg1) | (at_builtin; refine wpList_bytes rfl (.tmp 35) (.tmp 39) rfl w.heap.size v1 (l ++ [3]) rfl (ho1.keep (Ch.alloc (fun _ => False) _ _) (fun _ _ => id)) w1.heap.size [0] 1 rfl rfl (heap_alloc_new w1 _) (by simp; omega) (by simp; omega) ?_; intro v2 w2 ho2 hg2; have hch2 : Ch (fun _ => False) w w2 := (hch1.tr (Ch.alloc _ _ _)).trans hg2 (fun j hj h => by have := (ho1.own j h).1; omega); clear hg2))
          go_roundw
          case rel => exact ⟨ii + 1, by go_num, by omega, by rw [HK.out, HK2.out]; simpa using ho2, hch2⟩
          case measure => simp [intOf]; omega
        · have HK2 := Lib.hid (show keyV ⟨2, 1, ByteArray.empty⟩ = [3, 1] from rfl)
          go_wp2_with (first | (at_builtin; refine wpList_bytes rfl (.tmp 16) (.tmp 21) rfl w.heap.size u4 _ rfl (ho.keep ((Ch.alloc (fun _ => False) _ _).tr (Ch.alloc _ _ _)) (fun _ _ => id)) (wr.heap.size + 1) [3] 1 rfl rfl (row2 _ _ [3]) (by omega) (by simp; omega) ?_; intro v1 w1 ho1 hg1; obtain ⟨⟨f0, f1, f2⟩, hch1⟩ := after_box hch ho hg1; have hz1 := hch1.size; clear hg1) | (at_builtin; refine wpList_bytes rfl (.tmp 35) (.tmp 39) rfl w.heap.size v1 (l ++ [3]) rfl (ho1.keep (Ch.alloc (fun _ => False) _ _) (fun _ _ => id)) w1.heap.size [1] 1 rfl rfl (heap_alloc_new w1 _) (by simp; omega) (by simp; omega) ?_; intro v2 w2 ho2 hg2; have hch2 : Ch (fun _ => False) w w2 := (hch1.tr (Ch.alloc _ _ _)).trans hg2 (fun j hj h => by have := (ho1.own j h).1; omega); clear hg2))
          go_roundw
          case rel => exact ⟨ii + 1, by go_num, by omega, by rw [HK.out, HK2.out]; simpa using ho2, hch2⟩
          case measure => simp [intOf]; omega
      · simp only at h1 h2 h3; subst h1 h2
        have HK2 := Lib.hid (show keyV ⟨3, 0, s⟩ = 4 :: (subst1 0 [0, 255] s.data.toList ++ [0, 0]) from rfl)
        have HL := Lib.hid (subst1_len 0 0 255 s.data.toList)
        have HR := Lib.hid (replace_zero s h3 m)
        go_wp2_with (first | (at_builtin; refine wpList_bytes rfl (.tmp 16) (.tmp 21) rfl w.heap.size u4 _ rfl (ho.keep ((Ch.alloc (fun _ => False) _ _).tr (Ch.alloc _ _ _)) (fun _ _ => id)) (wr.heap.size + 1) [4] 1 rfl rfl (row2 _ _ [4]) (by omega) (by simp; omega) ?_; intro v1 w1 ho1 hg1; obtain ⟨⟨f0, f1, f2⟩, hch1⟩ := after_box hch ho hg1; have hz1 := hch1.size; clear hg1) | (go_at_call 27; (with_reducible refine (HR.out w1 (hch1.cell hm id)).mono ?_); rintro e w2 ⟨rfl, hb2⟩; have ho2 := ho1.keep (Ch.of_new (S := fun _ => False) hb2) (fun _ _ => id); have hch2 := hch1.tr (Ch.of_new hb2); have hz2 := hch2.size; clear hb2) | (at_builtin; refine wpList_text rfl (.tmp 44) (.tmp 47) rfl w.heap.size v1 (l ++ [4]) rfl ho2 (txt (subst1 0 [0, 255] s.data.toList)) rfl (by have := HL.out; rw [size_data] at this; rw [txt_size]; simp; omega) hz2 ?_; intro v3 w3 ho3 hg3; have hch3 : Ch (fun _ => False) w w3 := hch2.trans hg3 (fun j hj h => by have := (ho2.own j h).1; omega); have hz3 := hch3.size; clear hg3) | (at_builtin; refine wpList_text rfl (.tmp 49) (.const (.string ⟨#[0, 0]⟩)) rfl w.heap.size v3 _ rfl ho3 ⟨#[0, 0]⟩ rfl (by have := HL.out; rw [size_data] at this; rw [txt_data]; simp [ByteArray.size]; omega) hz3 ?_; intro v4 w4 ho4 hg4; have hch4 : Ch (fun _ => False) w w4 := hch3.trans hg4 (fun j hj h => by have := (ho3.own j h).1; omega); clear hg4))
        go_roundw
        case rel => exact ⟨ii + 1, by go_num, by omega, by rw [HK.out, HK2.out]; rw [txt_data] at ho4; simpa using ho4, hch4⟩
        case measure => simp [intOf]; omega
      · simp only at h1 h2 h3; subst h1 h2
        have HK2 := Lib.hid (show keyV ⟨4, 0, s⟩ = 5 :: (subst1 0 [0, 255] s.data.toList ++ [0, 0]) from rfl)
        have HL := Lib.hid (subst1_len 0 0 255 s.data.toList)
        have HR := Lib.hid (replace_zero s h3 m)
        go_wp2_with (first | (at_builtin; refine wpList_bytes rfl (.tmp 16) (.tmp 21) rfl w.heap.size u4 _ rfl (ho.keep ((Ch.alloc (fun _ => False) _ _).tr (Ch.alloc _ _ _)) (fun _ _ => id)) (wr.heap.size + 1) [5] 1 rfl rfl (row2 _ _ [5]) (by omega) (by simp; omega) ?_; intro v1 w1 ho1 hg1; obtain ⟨⟨f0, f1, f2⟩, hch1⟩ := after_box hch ho hg1; have hz1 := hch1.size; clear hg1) | (go_at_call 27; (with_reducible refine (HR.out w1 (hch1.cell hm id)).mono ?_); rintro e w2 ⟨rfl, hb2⟩; have ho2 := ho1.keep (Ch.of_new (S := fun _ => False) hb2) (fun _ _ => id); have hch2 := hch1.tr (Ch.of_new hb2); have hz2 := hch2.size; clear hb2) | (at_builtin; refine wpList_text rfl (.tmp 44) (.tmp 47) rfl w.heap.size v1 (l ++ [5]) rfl ho2 (txt (subst1 0 [0, 255] s.data.toList)) rfl (by have := HL.out; rw [size_data] at this; rw [txt_size]; simp; omega) hz2 ?_; intro v3 w3 ho3 hg3; have hch3 : Ch (fun _ => False) w w3 := hch2.trans hg3 (fun j hj h => by have := (ho2.own j h).1; omega); have hz3 := hch3.size; clear hg3) | (at_builtin; refine wpList_text rfl (.tmp 49) (.const (.string ⟨#[0, 0]⟩)) rfl w.heap.size v3 _ rfl ho3 ⟨#[0, 0]⟩ rfl (by have := HL.out; rw [size_data] at this; rw [txt_data]; simp [ByteArray.size]; omega) hz3 ?_; intro v4 w4 ho4 hg4; have hch4 : Ch (fun _ => False) w w4 := hch3.trans hg4 (fun j hj h => by have := (ho3.own j h).1; omega); clear hg4))
        go_roundw
        case rel => exact ⟨ii + 1, by go_num, by omega, by rw [HK.out, HK2.out]; rw [txt_data] at ho4; simpa using ho4, hch4⟩
        case measure => simp [intOf]; omega
    · have hlt' : (xs.length : Int) ≤ (ii : Int) := by omega
      have hcv := conv_own ho
      have e : keyL (xs.take ii) = keyL xs := by rw [List.take_of_length_le (by omega)]
      have HE := Lib.hid e
      clear e
      go_wp2
      go_ret2
      exact ⟨by rw [HE.out]; rfl, hch.new⟩

set_option maxRecDepth 100000 in
set_option maxHeartbeats 1000000 in
theorem key_no (w : World) (a : Option Addr) (cap : Nat) (xs : List V) (hr : Rd w a xs) (hT : tupleB xs = false) :
    Calls Tryd.prog 17 #[.slice a xs.length cap] w fun e w' => e = .returned (.tuple #[.string ByteArray.empty, .bool false]) ∧ Below w.heap.size w w' := by
  have P := isTuple_any a cap xs w hr
  rw [hT] at P
  have HP := Lib.hid P
  clear P hT
  go_enter Tryd.func17, Tryd.ntmps17
  go_wp2_with (go_at_call 31; (with_reducible refine HP.out.mono ?_); rintro e w0 ⟨rfl, hb0⟩)
  go_ret2
  exact ⟨rfl, hb0⟩
theorem key_any (m : Int) (w : World) (hm : w.cell? ⟨1, 0, none⟩ = some (.int .i64 m)) (a : Option Addr) (cap : Nat) (xs : List V) (hr : Rd w a xs) (hok : ∀ y ∈ xs, y.ok) :
    Calls Tryd.prog 17 #[.slice a xs.length cap] w fun e w' => e = .returned (.tuple #[.string (keyT xs), .bool (tupleB xs)]) ∧ Below w.heap.size w w' := by
  unfold keyT
  cases h : tupleB xs with
  | true => rw [if_pos rfl]; exact key_yes m w hm a cap xs hr hok h
  | false => rw [if_neg Bool.false_ne_true]; exact key_no w a cap xs hr h
end Go.Proofs.YtmlllgcmhapadaaDoor
