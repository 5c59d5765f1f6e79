/- What a name is, and the walks that ask for it: the program's and the document's. -/
import Derived.Test.YtogihpofkjpokaaGreatDoorDModel
namespace Go.Proofs.YtogihpofkjpokaaGreatDoor.D4
open Go Go.RowKit

def byteB (b : Nat) : Bool := (decide (97 ≤ b) && decide (b ≤ 122)) || (decide (48 ≤ b) && decide (b ≤ 57)) || decide (b = 45) || decide (b = 46)
def nameB (l : List UInt8) : Bool := !l.isEmpty && decide (l.length ≤ 40) && l.all fun b => byteB b.toNat
theorem ret_bool {a b : Bool} (h : a = b) : Ending.returned (.bool a) = .returned (.bool b) := by rw [h]
theorem nameB_take {l : List UInt8} {i : Nat} (h : (l.take i).all (fun b => byteB b.toNat) = false) : nameB l = false := by
  unfold nameB
  have : l.all (fun b => byteB b.toNat) = false := by rw [← List.take_append_drop i l, List.all_append, h, Bool.false_and]
  rw [this, Bool.and_false]
theorem nameB_all {l : List UInt8} (h0 : l.length ≠ 0) (h : l.length ≤ 40) : nameB l = l.all fun b => byteB b.toNat := by
  unfold nameB
  cases l with
  | nil => simp at h0
  | cons a l => simp only [List.isEmpty_cons, Bool.not_false, decide_eq_true h, Bool.true_and]
theorem nameB_nil {l : List UInt8} (h0 : l.length = 0) : nameB l = false := by
  have : l = [] := List.length_eq_zero_iff.1 h0
  subst this; rfl
theorem nameB_long {l : List UInt8} (h : 40 < l.length) : nameB l = false := by
  unfold nameB; rw [decide_eq_false (by omega)]; simp
theorem name_len {l : List UInt8} (h : nameB l = true) : 1 ≤ l.length ∧ l.length ≤ 40 := by
  by_cases h0 : l.length = 0
  · rw [nameB_nil h0] at h; cases h
  · by_cases h1 : 40 < l.length
    · rw [nameB_long h1] at h; cases h
    · omega
theorem all_snoc (s : ByteArray) (k : Nat) (h : k < s.size) : (s.data.toList.take (k + 1)).all (fun b => byteB b.toNat) = ((s.data.toList.take k).all (fun b => byteB b.toNat) && byteB s[k].toNat) := by
  rw [take_snoc' s k h, List.all_append]; simp
theorem run_index (s : ByteArray) (k : IntKind) (i : Int) (n : Nat) (hi : i = (n : Int)) (b : UInt8) (h : s[n]? = some b) (w : World) :
    (Instr.index 9 (.string s) (.int k i)).run Tryz.prog w = .ok (.int .u8 (b.toNat : Int)) w := by
  subst hi
  simp only [Instr.index, asIntOf, Sem.run_bind, Sem.run_pure, Result.andThen_ok, run_underlying Tryz.underlying9]
  rw [if_pos (Int.natCast_nonneg n), Int.toNat_natCast, h]
  rfl

set_option maxRecDepth 100000 in
set_option maxHeartbeats 1000000 in
theorem isNameByte_any (b : Nat) (w : World) : Calls Tryz.prog 116 #[.int .u8 (b : Int)] w fun e w' => e = .returned (.bool (byteB b)) ∧ w' = w := by
  by_cases h1 : 97 ≤ b <;> by_cases h2 : b ≤ 122 <;> by_cases h3 : 48 ≤ b <;> by_cases h4 : b ≤ 57 <;> by_cases h5 : b = 45 <;> by_cases h6 : b = 46 <;> first
    | omega
    | (have e : byteB b = true := by simp [byteB, h1, h2, h3, h4, h5, h6]
       rw [e]
       go_enter Tryz.func116, Tryz.ntmps116
       go_wp2
       go_ret
       first | (simp; done) | (simp; omega))
    | (have e : byteB b = false := by simp [byteB, h1, h2, h3, h4, h5, h6]
       rw [e]
       go_enter Tryz.func116, Tryz.ntmps116
       go_wp2
       go_ret
       first | (simp; done) | (simp; omega))

set_option maxRecDepth 100000 in
set_option maxHeartbeats 1000000 in
theorem isName_any (s : ByteArray) (w : World) : Calls Tryz.prog 92 #[.string s] w fun e w' => e = .returned (.bool (nameB s.data.toList)) ∧ w' = w := by
  by_cases h0 : s.size = 0
  · have hb := nameB_nil (l := s.data.toList) (by rw [size_data]; exact h0)
    have hs : s = ⟨#[]⟩ := by
      have : s.data = #[] := Array.eq_empty_of_size_eq_zero h0
      cases s; simp_all
    subst hs
    go_enter Tryz.func92, Tryz.ntmps92
    go_wp2
    go_ret
    exact ⟨ret_bool hb.symm, rfl⟩
  by_cases h1 : 40 < s.size
  · have hb := nameB_long (l := s.data.toList) (by rw [size_data]; exact h1)
    have h1' : (40 : Int) < (s.size : Int) := by omega
    have HB := Lib.hid hb
    clear hb
    go_enter Tryz.func92, Tryz.ntmps92
    go_wp2
    all_goals (go_ret; exact ⟨ret_bool HB.out.symm, rfl⟩)
  have hb := nameB_all (l := s.data.toList) (by rw [size_data]; exact h0) (by rw [size_data]; omega)
  have HB := Lib.hid hb
  clear hb
  have he : s.toList.isEmpty = false := by
    rw [ByteArray.toList_eq]
    cases h : s.data.toList with
    | nil => have e := size_data s; rw [h] at e; exact absurd e.symm h0
    | cons a l => rfl
  have h1' : (s.size : Int) ≤ 40 := by omega
  go_enter Tryz.func92, Tryz.ntmps92
  go_wp2
  go_loop [13] (fun i => ∃ (ii : Nat), i = .int .i64 (ii : Int) ∧ ii ≤ s.size ∧ Hid ((s.data.toList.take ii).all (fun b => byteB b.toNat) = true)) (fun i => s.size - (intOf i).toNat)
  case atStart => exact ⟨0, rfl, Nat.zero_le _, Lib.hid (by simp)⟩
  case round =>
    obtain ⟨ii, rfl, hi, HD⟩ := hrel
    by_cases hlt : ii < s.size
    · have hlt' : (ii : Int) < (s.size : Int) := by omega
      have hi0 : (0 : Int) ≤ (ii : Int) := by omega
      have HS := Lib.hid (all_snoc s ii hlt)
      have e0 : s[ii]? = some s[ii] := getElem?_pos s ii hlt
      have r0 := run_index s .i64 (ii : Int) ii rfl s[ii] e0
      generalize s[ii] = bk at HS r0 e0
      clear e0
      have P := isNameByte_any bk.toNat
      cases hy : byteB bk.toNat with
      | true =>
        rw [hy] at P
        have HY := Lib.hid hy
        clear hy
        go_wp2_with (go_at_call 116; (with_reducible refine (P _).mono ?_); rintro e w1 ⟨rfl, rfl⟩)
        go_round
        case rel => exact ⟨ii + 1, by go_num, by omega, Lib.hid (by rw [HS.out, HD.out, HY.out]; rfl)⟩
        case measure => simp [intOf]; omega
      | false =>
        rw [hy] at P
        have HY := Lib.hid (nameB_take (l := s.data.toList) (i := ii + 1) (by rw [HS.out, hy, Bool.and_false]))
        clear hy
        go_wp2_with (go_at_call 116; (with_reducible refine (P _).mono ?_); rintro e w1 ⟨rfl, rfl⟩)
        go_ret
        exact ⟨ret_bool HY.out.symm, rfl⟩
    · have hlt' : (s.size : Int) ≤ (ii : Int) := by omega
      have HE : Hid (nameB s.data.toList = true) := Lib.hid (by rw [HB.out, ← HD.out, List.take_of_length_le (by rw [size_data]; omega)])
      go_wp2
      go_ret
      exact ⟨ret_bool HE.out.symm, rfl⟩

end Go.Proofs.YtogihpofkjpokaaGreatDoor.D4
