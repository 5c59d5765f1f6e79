/- Walks of cutNumber, cutBool, cutCounted. -/
import Derived.Test.YtmlllgcmhapadaaDoorSign
import Derived.BigQuiet
import Derived.Deep.QuietTactic
import Derived.IntWalk
import Derived.Deep.RegionWith
namespace Go.Proofs.YtmlllgcmhapadaaDoor
open Go Go.RowKit

/-- The number that bytes are, the highest first. -/
def numL (l : List UInt8) : Nat := l.foldl (fun a b => a * 256 + b.toNat) 0
theorem numL_snoc (l : List UInt8) (b : UInt8) : numL (l ++ [b]) = numL l * 256 + b.toNat := by simp [numL, List.foldl_append]
theorem foldl_lt (l : List UInt8) : ∀ a : Nat, l.foldl (fun a b => a * 256 + b.toNat) a < (a + 1) * 256 ^ l.length := by
  induction l with
  | nil => intro a; simp
  | cons b l ih =>
    intro a
    have h := ih (a * 256 + b.toNat)
    have hb := b.toNat_lt
    rw [List.foldl_cons, List.length_cons, Nat.pow_succ]
    refine Nat.lt_of_lt_of_le h ?_
    rw [Nat.mul_comm (256 ^ l.length) 256, ← Nat.mul_assoc]
    exact Nat.mul_le_mul_right _ (by omega)
theorem numL_lt (l : List UInt8) (n : Nat) (h : l.length ≤ n) : numL l < 256 ^ n := by
  have := foldl_lt l 0
  rw [Nat.zero_add, Nat.one_mul] at this
  exact Nat.lt_of_lt_of_le this (Nat.pow_le_pow_right (by decide) h)
theorem wrapU_in (x : Int) (h0 : 0 ≤ x) (h1 : x < 18446744073709551616) : IntKind.u64.wrap x = x := by
  simp [IntKind.wrap, IntKind.bits, IntKind.signed]
  omega
theorem or_byte (x b : Nat) (hx : x < 72057594037927936) (hb : b < 256) : bits .or .u64 ((x : Int) * 256) (b : Int) = ((x * 256 + b : Nat) : Int) := by
  rw [show (x : Int) * 256 = ((x * 256 : Nat) : Int) by omega, u64_or_nat _ _ (by omega) (by omega)]
  congr 1
  have := Nat.two_pow_add_eq_or_of_lt (i := 8) (b := b) (by omega) x
  rw [show x * 256 = 2 ^ 8 * x by omega, this]

set_option maxRecDepth 100000 in
set_option maxHeartbeats 1000000 in
theorem cutNumber_yes (s : ByteArray) (hs : 8 ≤ s.size) (hm : s.size ≤ 1000000000) (w : World) :
    Calls Tryd.prog 44 #[.string s] w fun e w' => e = .returned (.tuple #[.int .u64 (numL (s.data.toList.take 8) : Nat), .string (s.extract 8 s.size), .bool true]) ∧ Below w.heap.size w w' := by
  have hs' : (8 : Int) ≤ (s.size : Int) := by omega
  go_enter Tryd.func44, Tryd.ntmps44
  go_wp2
  go_loop [2, 9] (fun x i => ∃ (ii n : Nat), i = .int .i64 (ii : Int) ∧ ii ≤ 8 ∧ x = .int .u64 (n : Int) ∧ Hid (n = numL (s.data.toList.take ii))) (fun _ i => 8 - (intOf i).toNat)
  case atStart => exact ⟨0, 0, rfl, Nat.zero_le _, rfl, Lib.hid rfl⟩
  case round =>
    obtain ⟨ii, n, rfl, hi, rfl, hn⟩ := hrel
    by_cases hlt : ii < 8
    · have hlt' : (ii : Int) < 8 := by omega
      have hi0 : (0 : Int) ≤ (ii : Int) := by omega
      have hi1 : ii < s.size := by omega
      have hi2 : (ii : Int) < (s.size : Int) := by omega
      have hb := numL_lt (s.data.toList.take ii) 7 (by rw [List.length_take]; omega)
      have hsn : numL (s.data.toList.take (ii + 1)) = n * 256 + s[ii].toNat := by rw [take_snoc' s ii hi1, numL_snoc, ← hn.out]
      rw [← hn.out] at hb
      have HS := Lib.hid hsn
      clear hsn hn
      have hbb : s[ii].toNat < 256 := s[ii].toNat_lt
      have hx := or_byte n s[ii].toNat (by omega) hbb
      have hb' : (n : Int) ≤ 72057594037927935 := by omega
      have hb0 : (0 : Int) ≤ (n : Int) := by omega
      have hw : IntKind.u64.wrap (s[ii].toNat : Int) = (s[ii].toNat : Int) := wrapU_in _ (by omega) (by omega)
      clear hb
      go_wp2
      go_round
      case rel => exact ⟨ii + 1, n * 256 + s[ii].toNat, by go_num, by omega, rfl, Lib.hid HS.out.symm⟩
      case measure => simp [intOf]; omega
    · obtain rfl : ii = 8 := by omega
      have HN := Lib.hid (And.intro hn.out True.intro)
      clear hn
      go_wp2_with fail
      go_quiet (fail)
      go_wp2
      go_ret3
      exact ⟨by rw [← HN.out.1]; rfl, (Ch.drewN _ w nq).new⟩
set_option maxHeartbeats 1000000 in
theorem cutNumber_no (s : ByteArray) (hs : s.size < 8) (w : World) :
    Calls Tryd.prog 44 #[.string s] w fun e w' => e = .returned (.tuple #[.int .u64 0, .string ByteArray.empty, .bool false]) ∧ Below w.heap.size w w' := by
  have hs' : (s.size : Int) < 8 := by omega
  go_enter Tryd.func44, Tryd.ntmps44
  go_wp2
  go_ret3
  exact ⟨rfl, Below.refl _ _⟩
theorem not_empty (s : ByteArray) (h : 0 < s.size) : s.toList.isEmpty = false := by
  rw [empty_dec]; simp; intro e; rw [e] at h; exact absurd h (by decide)
theorem is_empty (s : ByteArray) (h : s.size = 0) : s.toList.isEmpty = true := by
  rw [empty_dec]; simpa using h

set_option maxRecDepth 100000 in
set_option maxHeartbeats 1000000 in
theorem cutBool_yes (s : ByteArray) (h : 0 < s.size) (hb : s[0].toNat ≤ 1) (w : World) :
    Calls Tryd.prog 45 #[.string s] w fun e w' => e = .returned (.tuple #[.int .i64 (s[0].toNat : Int), .string (s.extract 1 s.size), .bool true]) ∧ Below w.heap.size w w' := by
  have he := not_empty s h
  have h' : (0 : Int) < (s.size : Int) := by omega
  have h1 : (1 : Int) ≤ (s.size : Int) := by omega
  have hb' : (s[0].toNat : Int) ≤ 1 := by omega
  go_enter Tryd.func45, Tryd.ntmps45
  go_wp2_with fail
  go_quiet (fail)
  go_wp2
  go_ret3
  exact ⟨rfl, (Ch.drewN _ w nq).new⟩
set_option maxRecDepth 100000 in
set_option maxHeartbeats 1000000 in
theorem cutBool_no (s : ByteArray) (h : s.size = 0 ∨ ∃ h : 0 < s.size, 1 < s[0].toNat) (w : World) :
    Calls Tryd.prog 45 #[.string s] w fun e w' => e = .returned (.tuple #[.int .i64 0, .string ByteArray.empty, .bool false]) ∧ Below w.heap.size w w' := by
  rcases h with h | ⟨h, hb⟩
  · have he := is_empty s h
    clear h
    go_enter Tryd.func45, Tryd.ntmps45
    go_wp2
    go_ret3
    exact ⟨rfl, Below.refl _ _⟩
  · have he := not_empty s h
    have h' : (0 : Int) < (s.size : Int) := by omega
    have hb' : 1 < (s[0].toNat : Int) := by omega
    go_enter Tryd.func45, Tryd.ntmps45
    go_wp2
    go_ret3
    exact ⟨rfl, Below.refl _ _⟩
theorem run_index (s : ByteArray) (k : IntKind) (i : Int) (n : Nat) (hi : i = (n : Int)) (b : UInt8) (h : s[n]? = some b) (w : World) :
    (Instr.index 9 (.string s) (.int k i)).run Tryd.prog w = .ok (.int .u8 (b.toNat : Int)) w := by
  subst hi
  simp only [Instr.index, asIntOf, Sem.run_bind, Sem.run_pure, Result.andThen_ok, run_underlying Tryd.underlying9]
  rw [if_pos (Int.natCast_nonneg n), Int.toNat_natCast, h]
  rfl
set_option maxHeartbeats 1000000 in
theorem clone_any (s : ByteArray) (w : World) (hs : s.size ≤ 1000000) : Calls Tryd.prog 62 #[.string s] w fun e w' => e = .returned (.string s) ∧ Below w.heap.size w w' := by
  go_enter Tryd.func62, Tryd.ntmps62
  go_wp2_with (go_at_call 78; refine (Tryd.stringslite_Clone s w (by omega)).mono ?_; rintro e w' ⟨rfl, hb⟩)
  go_ret
  exact ⟨rfl, hb⟩
theorem get_of_data (s : ByteArray) (n : Nat) {b : UInt8} (h : s.data.toList[n]? = some b) : s[n]? = some b := by
  have hl : n < s.data.toList.length := (List.getElem?_eq_some_iff.1 h).1
  have h2 : n < s.size := hl
  rw [getElem?_pos s n h2]
  rw [List.getElem?_eq_getElem hl] at h
  exact h
theorem ext_txt (s : ByteArray) (a b : Nat) : s.extract a b = txt ((s.data.toList.drop a).take (b - a)) := by
  have h := Lib.extract_data s a b
  unfold txt
  rw [← h]
theorem end_txt (s : ByteArray) (a : Nat) : s.extract a s.size = txt (s.data.toList.drop a) := by
  rw [ext_txt, List.take_of_length_le]
  rw [List.length_drop, size_data]
  exact Nat.le_refl _
theorem i64_or_nat (a b : Nat) (ha : a < 9223372036854775808) (hb : b < 9223372036854775808) : bits .or .i64 (a : Int) (b : Int) = ((a ||| b : Nat) : Int) := by
  have hx : a ||| b < 2 ^ 63 := Nat.or_lt_two_pow (by omega) (by omega)
  have o1 : ∀ c : Nat, c < 9223372036854775808 → (BitVec.ofInt 64 (c : Int)).toNat = c := fun c hc => by rw [BitVec.ofInt_natCast, BitVec.toNat_ofNat]; exact Nat.mod_eq_of_lt (by omega)
  show IntKind.i64.wrap ((BitVec.ofInt 64 (a : Int) ||| BitVec.ofInt 64 (b : Int)).toNat : Int) = _
  rw [BitVec.toNat_or, o1 a ha, o1 b hb, IntKind.wrap_i64]
  omega
theorem or_len (a b : Nat) (ha : a < 256) (hb : b < 256) : bits .or .i64 ((a : Int) * 256) (b : Int) = ((a * 256 + b : Nat) : Int) := by
  rw [show (a : Int) * 256 = ((a * 256 : Nat) : Int) by omega, i64_or_nat _ _ (by omega) (by omega)]
  congr 1
  have := Nat.two_pow_add_eq_or_of_lt (i := 8) (b := b) (by omega) a
  rw [show a * 256 = 2 ^ 8 * a by omega, this]
set_option maxRecDepth 100000 in
set_option maxHeartbeats 4000000 in
theorem cutCounted_yes (s : ByteArray) (b0 b1 : UInt8) (l : List UInt8) (hs : s.data.toList = b0 :: b1 :: l) (hm : s.size ≤ 1000000000) (h1 : b0.toNat * 256 + b1.toNat ≤ 1000) (h2 : b0.toNat * 256 + b1.toNat ≤ l.length) (w : World) :
    Calls Tryd.prog 46 #[.string s] w fun e w' => e = .returned (.tuple #[.string (txt (l.take (b0.toNat * 256 + b1.toNat))), .string (txt (l.drop (b0.toNat * 256 + b1.toNat))), .bool true]) ∧ Below w.heap.size w w' := by
  have hz : s.size = l.length + 2 := by rw [← size_data, hs]; simp
  have e0 : s[0]? = some b0 := get_of_data s 0 (by rw [hs]; rfl)
  have e1 : s[1]? = some b1 := get_of_data s 1 (by rw [hs]; rfl)
  have c0 : b0.toNat < 256 := b0.toNat_lt
  have c1 : b1.toNat < 256 := b1.toNat_lt
  have r0 := run_index s .i64 0 0 rfl b0 e0
  have r1 := run_index s .i64 1 1 rfl b1 e1
  have x1 : wrap64 ((b0.toNat : Int) * 256) = (b0.toNat : Int) * 256 := by unfold wrap64; omega
  have x2 := or_len b0.toNat b1.toNat c0 c1
  have hT : s.extract 2 s.size = txt l := by rw [end_txt, hs]; rfl
  have hTz : (txt l).size = l.length := rfl
  have h' : (2 : Int) ≤ (s.size : Int) := by omega
  have hlm : l.length ≤ 1000000000 := by omega
  generalize b0.toNat * 256 + b1.toNat = L at *
  have h1' : (L : Int) ≤ 1000 := by omega
  have h2' : (L : Int) ≤ (l.length : Int) := by omega
  have h3' : L ≤ (txt l).size := by omega
  have HE := Lib.hid (And.intro e0 (And.intro e1 (And.intro hs hz)))
  have y1 : (txt l).extract 0 L = txt (l.take L) := by rw [ext_txt]; rfl
  have y2 : (txt l).extract L l.length = txt (l.drop L) := end_txt (txt l) L
  clear e0 e1 hs hz
  go_enter Tryd.func46, Tryd.ntmps46
  go_wp2_with fail
  go_quiet (fail)
  go_wp2_with fail
  clear r0 r1 x1 x2
  have HC := Lib.hid (fun W => clone_any (txt (l.take L)) W (by rw [txt_size, List.length_take]; omega))
  go_region_with ((go_at_call 62; (with_reducible refine (HC.out _).mono ?_); rintro e w1 ⟨rfl, hb1⟩))
  all_goals
    go_wp2
    go_ret3
    refine ⟨rfl, ?_⟩
    exact ((Ch.drewN (fun _ => False) w (nq + 1)).tr (Ch.of_new hb1)).new
set_option maxRecDepth 100000 in
set_option maxHeartbeats 1000000 in
theorem cutCounted_short (s : ByteArray) (hs : s.size < 2) (w : World) :
    Calls Tryd.prog 46 #[.string s] w fun e w' => e = .returned (.tuple #[.string ByteArray.empty, .string ByteArray.empty, .bool false]) ∧ Below w.heap.size w w' := by
  have hs' : (s.size : Int) < 2 := by omega
  go_enter Tryd.func46, Tryd.ntmps46
  go_wp2
  go_ret3
  exact ⟨rfl, Below.refl _ _⟩
set_option maxRecDepth 100000 in
set_option maxHeartbeats 4000000 in
theorem cutCounted_no (s : ByteArray) (b0 b1 : UInt8) (l : List UInt8) (hs : s.data.toList = b0 :: b1 :: l) (hm : s.size ≤ 1000000000) (h1 : 1000 < b0.toNat * 256 + b1.toNat ∨ l.length < b0.toNat * 256 + b1.toNat) (w : World) :
    Calls Tryd.prog 46 #[.string s] w fun e w' => e = .returned (.tuple #[.string ByteArray.empty, .string ByteArray.empty, .bool false]) ∧ Below w.heap.size w w' := by
  have hz : s.size = l.length + 2 := by rw [← size_data, hs]; simp
  have e0 : s[0]? = some b0 := get_of_data s 0 (by rw [hs]; rfl)
  have e1 : s[1]? = some b1 := get_of_data s 1 (by rw [hs]; rfl)
  have c0 : b0.toNat < 256 := b0.toNat_lt
  have c1 : b1.toNat < 256 := b1.toNat_lt
  have r0 := run_index s .i64 0 0 rfl b0 e0
  have r1 := run_index s .i64 1 1 rfl b1 e1
  have x1 : wrap64 ((b0.toNat : Int) * 256) = (b0.toNat : Int) * 256 := by unfold wrap64; omega
  have x2 := or_len b0.toNat b1.toNat c0 c1
  have hT : s.extract 2 s.size = txt l := by rw [end_txt, hs]; rfl
  have hTz : (txt l).size = l.length := rfl
  have h' : (2 : Int) ≤ (s.size : Int) := by omega
  have hlm : l.length ≤ 1000000000 := by omega
  generalize b0.toNat * 256 + b1.toNat = L at *
  clear e0 e1 hs hz
  by_cases hL : 1000 < L
  · have h1' : 1000 < (L : Int) := by omega
    clear h1
    go_enter Tryd.func46, Tryd.ntmps46
    go_wp2_with fail
    go_quiet (fail)
    go_wp2
    go_ret3
    exact ⟨rfl, (Ch.drewN _ w nq).new⟩
  · have h1' : (L : Int) ≤ 1000 := by omega
    have h2' : l.length < L := by omega
    clear h1
    go_enter Tryd.func46, Tryd.ntmps46
    go_wp2_with fail
    go_quiet (fail)
    go_wp2
    go_ret3
    exact ⟨rfl, (Ch.drewN _ w nq).new⟩
end Go.Proofs.YtmlllgcmhapadaaDoor
