/- A number's eight bytes: plainly, and the walks. -/
import Derived.Test.YtmlllgcmhapadaaDoorTuple
import Derived.IntWalk
namespace Go.Proofs.YtmlllgcmhapadaaDoor
open Go Go.RowKit

/-- Byte i of a number of eight bytes, the highest first. -/
def be (n : Nat) (i : Nat) : UInt8 := UInt8.ofNat (n / 256 ^ (7 - i))
def be8 (n : Nat) : List UInt8 := (List.range 8).map (be n)
theorem be_at (n : Nat) : ((be n 0).toNat : Int) = (n : Int) / 72057594037927936 % 256 ∧ ((be n 1).toNat : Int) = (n : Int) / 281474976710656 % 256 ∧ ((be n 2).toNat : Int) = (n : Int) / 1099511627776 % 256 ∧
    ((be n 3).toNat : Int) = (n : Int) / 4294967296 % 256 ∧ ((be n 4).toNat : Int) = (n : Int) / 16777216 % 256 ∧ ((be n 5).toNat : Int) = (n : Int) / 65536 % 256 ∧ ((be n 6).toNat : Int) = (n : Int) / 256 % 256 ∧ ((be n 7).toNat : Int) = (n : Int) % 256 := by
  unfold be
  simp only [UInt8.toNat_ofNat']
  refine ⟨?_, ?_, ?_, ?_, ?_, ?_, ?_, ?_⟩ <;> simp
theorem range_succ_be (n i : Nat) : (List.range (i + 1)).map (be n) = (List.range i).map (be n) ++ [be n i] := by rw [List.range_succ, List.map_append]; rfl

set_option maxRecDepth 100000 in
set_option maxHeartbeats 4000000 in
theorem appendNumber_any (v : Value) (l : List UInt8) (B n : Nat) (hn : n < 18446744073709551616) (w : World) (hB : B ≤ w.heap.size) (hown : OwB w B v l) (hl : l.length ≤ 1000000) :
    Calls Tryd.prog 32 #[v, .int .u64 n] w fun e w' => ∃ v', e = .returned v' ∧ OwB w' B v' (l ++ be8 n) ∧ Ch (fun j => B ≤ j) w w' := by
  have HB := Lib.hid (be_at n)
  go_enter Tryd.func32, Tryd.ntmps32
  go_wp2
  go_loopw [0, 6] (fun x i wr => ∃ (ii : Nat), i = .int .i64 (ii : Int) ∧ ii ≤ 8 ∧ OwB wr B x (l ++ (List.range ii).map (be n)) ∧ Ch (fun j => B ≤ j) w wr) (fun _ i _ => 8 - (intOf i).toNat)
  case atStart => exact ⟨0, rfl, Nat.zero_le _, by simpa using hown, Ch.refl _ _⟩
  case round =>
    obtain ⟨ii, rfl, hi, ho, hch⟩ := hrel
    have hz := hch.size
    by_cases hlt : ii < 8
    · rcases (show ii = 0 ∨ ii = 1 ∨ ii = 2 ∨ ii = 3 ∨ ii = 4 ∨ ii = 5 ∨ ii = 6 ∨ ii = 7 by omega) with rfl | rfl | rfl | rfl | rfl | rfl | rfl | rfl
      · have hx : (n : Int) / 72057594037927936 = ((be n 0).toNat : Int) := by rw [HB.out.1]; omega
        have HE := Lib.hid (range_succ_be n 0)
        generalize be n 0 = b at hx HE
        go_wp2_with (at_builtin; refine wpList_bytes rfl (.tmp 9) (.tmp 16) rfl B u0 _ rfl (ho.keep (Ch.alloc (fun _ => False) _ _) (fun _ _ => id)) wr.heap.size [b] 1 rfl rfl (heap_alloc_new wr _) (by simp; omega) (by simp; omega) ?_; intro v' w1 ho1 hc1)
        have hch1 : Ch (fun j => B ≤ j) w w1 := (hch.tr (Ch.alloc _ _ _)).trans hc1 (fun j _ hj => (ho.own j hj).1)
        have ho2 : OwB w1 B v' (l ++ (List.range (0 + 1)).map (be n)) := by rw [HE.out, ← List.append_assoc]; exact ho1
        clear ho ho1 hc1 hch hx
        go_wp2
        go_roundw
        case rel => exact ⟨0 + 1, by go_num, by omega, ho2, hch1⟩
        case measure => simp [intOf]
      · have hx : (n : Int) / 281474976710656 % 256 = ((be n 1).toNat : Int) := by rw [HB.out.2.1]
        have HE := Lib.hid (range_succ_be n 1)
        generalize be n 1 = b at hx HE
        go_wp2_with (at_builtin; refine wpList_bytes rfl (.tmp 9) (.tmp 16) rfl B u0 _ rfl (ho.keep (Ch.alloc (fun _ => False) _ _) (fun _ _ => id)) wr.heap.size [b] 1 rfl rfl (heap_alloc_new wr _) (by simp; omega) (by simp; omega) ?_; intro v' w1 ho1 hc1)
        have hch1 : Ch (fun j => B ≤ j) w w1 := (hch.tr (Ch.alloc _ _ _)).trans hc1 (fun j _ hj => (ho.own j hj).1)
        have ho2 : OwB w1 B v' (l ++ (List.range (1 + 1)).map (be n)) := by rw [HE.out, ← List.append_assoc]; exact ho1
        clear ho ho1 hc1 hch hx
        go_wp2
        go_roundw
        case rel => exact ⟨1 + 1, by go_num, by omega, ho2, hch1⟩
        case measure => simp [intOf]
      · have hx : (n : Int) / 1099511627776 % 256 = ((be n 2).toNat : Int) := by rw [HB.out.2.2.1]
        have HE := Lib.hid (range_succ_be n 2)
        generalize be n 2 = b at hx HE
        go_wp2_with (at_builtin; refine wpList_bytes rfl (.tmp 9) (.tmp 16) rfl B u0 _ rfl (ho.keep (Ch.alloc (fun _ => False) _ _) (fun _ _ => id)) wr.heap.size [b] 1 rfl rfl (heap_alloc_new wr _) (by simp; omega) (by simp; omega) ?_; intro v' w1 ho1 hc1)
        have hch1 : Ch (fun j => B ≤ j) w w1 := (hch.tr (Ch.alloc _ _ _)).trans hc1 (fun j _ hj => (ho.own j hj).1)
        have ho2 : OwB w1 B v' (l ++ (List.range (2 + 1)).map (be n)) := by rw [HE.out, ← List.append_assoc]; exact ho1
        clear ho ho1 hc1 hch hx
        go_wp2
        go_roundw
        case rel => exact ⟨2 + 1, by go_num, by omega, ho2, hch1⟩
        case measure => simp [intOf]
      · have hx : (n : Int) / 4294967296 % 256 = ((be n 3).toNat : Int) := by rw [HB.out.2.2.2.1]
        have HE := Lib.hid (range_succ_be n 3)
        generalize be n 3 = b at hx HE
        go_wp2_with (at_builtin; refine wpList_bytes rfl (.tmp 9) (.tmp 16) rfl B u0 _ rfl (ho.keep (Ch.alloc (fun _ => False) _ _) (fun _ _ => id)) wr.heap.size [b] 1 rfl rfl (heap_alloc_new wr _) (by simp; omega) (by simp; omega) ?_; intro v' w1 ho1 hc1)
        have hch1 : Ch (fun j => B ≤ j) w w1 := (hch.tr (Ch.alloc _ _ _)).trans hc1 (fun j _ hj => (ho.own j hj).1)
        have ho2 : OwB w1 B v' (l ++ (List.range (3 + 1)).map (be n)) := by rw [HE.out, ← List.append_assoc]; exact ho1
        clear ho ho1 hc1 hch hx
        go_wp2
        go_roundw
        case rel => exact ⟨3 + 1, by go_num, by omega, ho2, hch1⟩
        case measure => simp [intOf]
      · have hx : (n : Int) / 16777216 % 256 = ((be n 4).toNat : Int) := by rw [HB.out.2.2.2.2.1]
        have HE := Lib.hid (range_succ_be n 4)
        generalize be n 4 = b at hx HE
        go_wp2_with (at_builtin; refine wpList_bytes rfl (.tmp 9) (.tmp 16) rfl B u0 _ rfl (ho.keep (Ch.alloc (fun _ => False) _ _) (fun _ _ => id)) wr.heap.size [b] 1 rfl rfl (heap_alloc_new wr _) (by simp; omega) (by simp; omega) ?_; intro v' w1 ho1 hc1)
        have hch1 : Ch (fun j => B ≤ j) w w1 := (hch.tr (Ch.alloc _ _ _)).trans hc1 (fun j _ hj => (ho.own j hj).1)
        have ho2 : OwB w1 B v' (l ++ (List.range (4 + 1)).map (be n)) := by rw [HE.out, ← List.append_assoc]; exact ho1
        clear ho ho1 hc1 hch hx
        go_wp2
        go_roundw
        case rel => exact ⟨4 + 1, by go_num, by omega, ho2, hch1⟩
        case measure => simp [intOf]
      · have hx : (n : Int) / 65536 % 256 = ((be n 5).toNat : Int) := by rw [HB.out.2.2.2.2.2.1]
        have HE := Lib.hid (range_succ_be n 5)
        generalize be n 5 = b at hx HE
        go_wp2_with (at_builtin; refine wpList_bytes rfl (.tmp 9) (.tmp 16) rfl B u0 _ rfl (ho.keep (Ch.alloc (fun _ => False) _ _) (fun _ _ => id)) wr.heap.size [b] 1 rfl rfl (heap_alloc_new wr _) (by simp; omega) (by simp; omega) ?_; intro v' w1 ho1 hc1)
        have hch1 : Ch (fun j => B ≤ j) w w1 := (hch.tr (Ch.alloc _ _ _)).trans hc1 (fun j _ hj => (ho.own j hj).1)
        have ho2 : OwB w1 B v' (l ++ (List.range (5 + 1)).map (be n)) := by rw [HE.out, ← List.append_assoc]; exact ho1
        clear ho ho1 hc1 hch hx
        go_wp2
        go_roundw
        case rel => exact ⟨5 + 1, by go_num, by omega, ho2, hch1⟩
        case measure => simp [intOf]
      · have hx : (n : Int) / 256 % 256 = ((be n 6).toNat : Int) := by rw [HB.out.2.2.2.2.2.2.1]
        have HE := Lib.hid (range_succ_be n 6)
        generalize be n 6 = b at hx HE
        go_wp2_with (at_builtin; refine wpList_bytes rfl (.tmp 9) (.tmp 16) rfl B u0 _ rfl (ho.keep (Ch.alloc (fun _ => False) _ _) (fun _ _ => id)) wr.heap.size [b] 1 rfl rfl (heap_alloc_new wr _) (by simp; omega) (by simp; omega) ?_; intro v' w1 ho1 hc1)
        have hch1 : Ch (fun j => B ≤ j) w w1 := (hch.tr (Ch.alloc _ _ _)).trans hc1 (fun j _ hj => (ho.own j hj).1)
        have ho2 : OwB w1 B v' (l ++ (List.range (6 + 1)).map (be n)) := by rw [HE.out, ← List.append_assoc]; exact ho1
        clear ho ho1 hc1 hch hx
        go_wp2
        go_roundw
        case rel => exact ⟨6 + 1, by go_num, by omega, ho2, hch1⟩
        case measure => simp [intOf]
      · have hx : (n : Int) % 256 = ((be n 7).toNat : Int) := by rw [HB.out.2.2.2.2.2.2.2]
        have HE := Lib.hid (range_succ_be n 7)
        generalize be n 7 = b at hx HE
        go_wp2_with (at_builtin; refine wpList_bytes rfl (.tmp 9) (.tmp 16) rfl B u0 _ rfl (ho.keep (Ch.alloc (fun _ => False) _ _) (fun _ _ => id)) wr.heap.size [b] 1 rfl rfl (heap_alloc_new wr _) (by simp; omega) (by simp; omega) ?_; intro v' w1 ho1 hc1)
        have hch1 : Ch (fun j => B ≤ j) w w1 := (hch.tr (Ch.alloc _ _ _)).trans hc1 (fun j _ hj => (ho.own j hj).1)
        have ho2 : OwB w1 B v' (l ++ (List.range (7 + 1)).map (be n)) := by rw [HE.out, ← List.append_assoc]; exact ho1
        clear ho ho1 hc1 hch hx
        go_wp2
        go_roundw
        case rel => exact ⟨7 + 1, by go_num, by omega, ho2, hch1⟩
        case measure => simp [intOf]
    · have hlt' : (8 : Int) ≤ (ii : Int) := by omega
      obtain rfl : ii = 8 := by omega
      go_wp2
      go_ret
      exact ⟨_, rfl, ho, hch⟩

set_option maxRecDepth 100000 in
set_option maxHeartbeats 4000000 in
theorem eight_any (n : Nat) (hn : n < 18446744073709551616) (w : World) :
    Calls Tryd.prog 34 #[.int .u64 n] w fun e w' => ∃ v', e = .returned v' ∧ OwB w' w.heap.size v' (be8 n) ∧ Below w.heap.size w w' := by
  have HB := Lib.hid (be_at n)
  go_enter Tryd.func34, Tryd.ntmps34
  go_wp2
  go_loopw [3, 4] (fun x i wr => ∃ (ii : Nat), i = .int .i64 (7 - (ii : Int)) ∧ ii ≤ 8 ∧ OwB wr w.heap.size x ((List.range ii).map (be n)) ∧ Ch (fun _ => False) w wr) (fun _ i _ => (intOf i + 1).toNat)
  case atStart => exact ⟨0, rfl, Nat.zero_le _, OwB.nil _ _, Ch.refl _ _⟩
  case round =>
    obtain ⟨ii, rfl, hi, ho, hch⟩ := hrel
    have hz := hch.size
    by_cases hlt : ii < 8
    · rcases (show ii = 0 ∨ ii = 1 ∨ ii = 2 ∨ ii = 3 ∨ ii = 4 ∨ ii = 5 ∨ ii = 6 ∨ ii = 7 by omega) with rfl | rfl | rfl | rfl | rfl | rfl | rfl | rfl
      · have hx : (n : Int) / 72057594037927936 = ((be n 0).toNat : Int) := by rw [HB.out.1]; omega
        have HE := Lib.hid (range_succ_be n 0)
        generalize be n 0 = b at hx HE
        go_wp2_with (at_builtin; refine wpList_bytes rfl (.tmp 9) (.tmp 15) rfl w.heap.size u3 _ rfl (ho.keep (Ch.alloc (fun _ => False) _ _) (fun _ _ => id)) wr.heap.size [b] 1 rfl rfl (heap_alloc_new wr _) (by simp) (by simp; omega) ?_; intro v' w1 ho1 hc1)
        have hch1 : Ch (fun _ => False) w w1 := (hch.tr (Ch.alloc _ _ _)).trans hc1 (fun j hj h => by have := (ho.own j h).1; omega)
        have ho2 : OwB w1 w.heap.size v' ((List.range (0 + 1)).map (be n)) := by rw [HE.out]; exact ho1
        clear ho ho1 hc1 hch hx
        go_wp2
        go_roundw
        case rel => exact ⟨0 + 1, by go_num, by omega, ho2, hch1⟩
        case measure => simp [intOf]
      · have hx : (n : Int) / 281474976710656 % 256 = ((be n 1).toNat : Int) := by rw [HB.out.2.1]
        have HE := Lib.hid (range_succ_be n 1)
        generalize be n 1 = b at hx HE
        go_wp2_with (at_builtin; refine wpList_bytes rfl (.tmp 9) (.tmp 15) rfl w.heap.size u3 _ rfl (ho.keep (Ch.alloc (fun _ => False) _ _) (fun _ _ => id)) wr.heap.size [b] 1 rfl rfl (heap_alloc_new wr _) (by simp) (by simp; omega) ?_; intro v' w1 ho1 hc1)
        have hch1 : Ch (fun _ => False) w w1 := (hch.tr (Ch.alloc _ _ _)).trans hc1 (fun j hj h => by have := (ho.own j h).1; omega)
        have ho2 : OwB w1 w.heap.size v' ((List.range (1 + 1)).map (be n)) := by rw [HE.out]; exact ho1
        clear ho ho1 hc1 hch hx
        go_wp2
        go_roundw
        case rel => exact ⟨1 + 1, by go_num, by omega, ho2, hch1⟩
        case measure => simp [intOf]
      · have hx : (n : Int) / 1099511627776 % 256 = ((be n 2).toNat : Int) := by rw [HB.out.2.2.1]
        have HE := Lib.hid (range_succ_be n 2)
        generalize be n 2 = b at hx HE
        go_wp2_with (at_builtin; refine wpList_bytes rfl (.tmp 9) (.tmp 15) rfl w.heap.size u3 _ rfl (ho.keep (Ch.alloc (fun _ => False) _ _) (fun _ _ => id)) wr.heap.size [b] 1 rfl rfl (heap_alloc_new wr _) (by simp) (by simp; omega) ?_; intro v' w1 ho1 hc1)
        have hch1 : Ch (fun _ => False) w w1 := (hch.tr (Ch.alloc _ _ _)).trans hc1 (fun j hj h => by have := (ho.own j h).1; omega)
        have ho2 : OwB w1 w.heap.size v' ((List.range (2 + 1)).map (be n)) := by rw [HE.out]; exact ho1
        clear ho ho1 hc1 hch hx
        go_wp2
        go_roundw
        case rel => exact ⟨2 + 1, by go_num, by omega, ho2, hch1⟩
        case measure => simp [intOf]
      · have hx : (n : Int) / 4294967296 % 256 = ((be n 3).toNat : Int) := by rw [HB.out.2.2.2.1]
        have HE := Lib.hid (range_succ_be n 3)
        generalize be n 3 = b at hx HE
        go_wp2_with (at_builtin; refine wpList_bytes rfl (.tmp 9) (.tmp 15) rfl w.heap.size u3 _ rfl (ho.keep (Ch.alloc (fun _ => False) _ _) (fun _ _ => id)) wr.heap.size [b] 1 rfl rfl (heap_alloc_new wr _) (by simp) (by simp; omega) ?_; intro v' w1 ho1 hc1)
        have hch1 : Ch (fun _ => False) w w1 := (hch.tr (Ch.alloc _ _ _)).trans hc1 (fun j hj h => by have := (ho.own j h).1; omega)
        have ho2 : OwB w1 w.heap.size v' ((List.range (3 + 1)).map (be n)) := by rw [HE.out]; exact ho1
        clear ho ho1 hc1 hch hx
        go_wp2
        go_roundw
        case rel => exact ⟨3 + 1, by go_num, by omega, ho2, hch1⟩
        case measure => simp [intOf]
      · have hx : (n : Int) / 16777216 % 256 = ((be n 4).toNat : Int) := by rw [HB.out.2.2.2.2.1]
        have HE := Lib.hid (range_succ_be n 4)
        generalize be n 4 = b at hx HE
        go_wp2_with (at_builtin; refine wpList_bytes rfl (.tmp 9) (.tmp 15) rfl w.heap.size u3 _ rfl (ho.keep (Ch.alloc (fun _ => False) _ _) (fun _ _ => id)) wr.heap.size [b] 1 rfl rfl (heap_alloc_new wr _) (by simp) (by simp; omega) ?_; intro v' w1 ho1 hc1)
        have hch1 : Ch (fun _ => False) w w1 := (hch.tr (Ch.alloc _ _ _)).trans hc1 (fun j hj h => by have := (ho.own j h).1; omega)
        have ho2 : OwB w1 w.heap.size v' ((List.range (4 + 1)).map (be n)) := by rw [HE.out]; exact ho1
        clear ho ho1 hc1 hch hx
        go_wp2
        go_roundw
        case rel => exact ⟨4 + 1, by go_num, by omega, ho2, hch1⟩
        case measure => simp [intOf]
      · have hx : (n : Int) / 65536 % 256 = ((be n 5).toNat : Int) := by rw [HB.out.2.2.2.2.2.1]
        have HE := Lib.hid (range_succ_be n 5)
        generalize be n 5 = b at hx HE
        go_wp2_with (at_builtin; refine wpList_bytes rfl (.tmp 9) (.tmp 15) rfl w.heap.size u3 _ rfl (ho.keep (Ch.alloc (fun _ => False) _ _) (fun _ _ => id)) wr.heap.size [b] 1 rfl rfl (heap_alloc_new wr _) (by simp) (by simp; omega) ?_; intro v' w1 ho1 hc1)
        have hch1 : Ch (fun _ => False) w w1 := (hch.tr (Ch.alloc _ _ _)).trans hc1 (fun j hj h => by have := (ho.own j h).1; omega)
        have ho2 : OwB w1 w.heap.size v' ((List.range (5 + 1)).map (be n)) := by rw [HE.out]; exact ho1
        clear ho ho1 hc1 hch hx
        go_wp2
        go_roundw
        case rel => exact ⟨5 + 1, by go_num, by omega, ho2, hch1⟩
        case measure => simp [intOf]
      · have hx : (n : Int) / 256 % 256 = ((be n 6).toNat : Int) := by rw [HB.out.2.2.2.2.2.2.1]
        have HE := Lib.hid (range_succ_be n 6)
        generalize be n 6 = b at hx HE
        go_wp2_with (at_builtin; refine wpList_bytes rfl (.tmp 9) (.tmp 15) rfl w.heap.size u3 _ rfl (ho.keep (Ch.alloc (fun _ => False) _ _) (fun _ _ => id)) wr.heap.size [b] 1 rfl rfl (heap_alloc_new wr _) (by simp) (by simp; omega) ?_; intro v' w1 ho1 hc1)
        have hch1 : Ch (fun _ => False) w w1 := (hch.tr (Ch.alloc _ _ _)).trans hc1 (fun j hj h => by have := (ho.own j h).1; omega)
        have ho2 : OwB w1 w.heap.size v' ((List.range (6 + 1)).map (be n)) := by rw [HE.out]; exact ho1
        clear ho ho1 hc1 hch hx
        go_wp2
        go_roundw
        case rel => exact ⟨6 + 1, by go_num, by omega, ho2, hch1⟩
        case measure => simp [intOf]
      · have hx : (n : Int) % 256 = ((be n 7).toNat : Int) := by rw [HB.out.2.2.2.2.2.2.2]
        have HE := Lib.hid (range_succ_be n 7)
        generalize be n 7 = b at hx HE
        go_wp2_with (at_builtin; refine wpList_bytes rfl (.tmp 9) (.tmp 15) rfl w.heap.size u3 _ rfl (ho.keep (Ch.alloc (fun _ => False) _ _) (fun _ _ => id)) wr.heap.size [b] 1 rfl rfl (heap_alloc_new wr _) (by simp) (by simp; omega) ?_; intro v' w1 ho1 hc1)
        have hch1 : Ch (fun _ => False) w w1 := (hch.tr (Ch.alloc _ _ _)).trans hc1 (fun j hj h => by have := (ho.own j h).1; omega)
        have ho2 : OwB w1 w.heap.size v' ((List.range (7 + 1)).map (be n)) := by rw [HE.out]; exact ho1
        clear ho ho1 hc1 hch hx
        go_wp2
        go_roundw
        case rel => exact ⟨7 + 1, by go_num, by omega, ho2, hch1⟩
        case measure => simp [intOf]
    · obtain rfl : ii = 8 := by omega
      go_wp2
      go_ret
      exact ⟨_, rfl, ho, hch.new⟩
end Go.Proofs.YtmlllgcmhapadaaDoor
