/- Digits of bytes: plainly, and the walks. -/
import Derived.Test.YtmlllgcmhapadaaDoorMark
import Derived.StillTailTactics
namespace Go.Proofs.YtmlllgcmhapadaaDoor
open Go Go.RowKit

theorem nat_mask4 (n : Nat) : n &&& 15 = n % 16 := by
  have := Nat.and_two_pow_sub_one_eq_mod n 4
  simpa using this
/-- The digit of a number below 16. -/
def hexd (n : Nat) : UInt8 := if n < 10 then UInt8.ofNat (48 + n) else UInt8.ofNat (87 + n)
def hexL (l : List UInt8) : List UInt8 := l.flatMap fun b => [hexd (b.toNat / 16), hexd (b.toNat % 16)]
theorem hexL_length (l : List UInt8) : (hexL l).length = 2 * l.length := by
  induction l with
  | nil => rfl
  | cons b l ih => simp [hexL, List.flatMap_cons] at ih ⊢; omega
theorem hexL_snoc (l : List UInt8) (b : UInt8) : hexL (l ++ [b]) = hexL l ++ [hexd (b.toNat / 16), hexd (b.toNat % 16)] := by
  simp [hexL]
def hexText : ByteArray := ⟨#[48, 49, 50, 51, 52, 53, 54, 55, 56, 57, 97, 98, 99, 100, 101, 102]⟩
theorem hex_at (n : Nat) (h : n < 16) : hexText[n]? = some (hexd n) := by
  have h2 : ∀ n : Fin 16, hexText[n.val]? = some (hexd n.val) := by decide
  exact h2 ⟨n, h⟩
theorem run_hex (k : IntKind) (i : Int) (n : Nat) (hi : i = (n : Int)) (h : n < 16) (w : World) :
    (Instr.index 9 (.string ⟨#[48, 49, 50, 51, 52, 53, 54, 55, 56, 57, 97, 98, 99, 100, 101, 102]⟩) (.int k i)).run Tryd.prog w = .ok (.int .u8 ((hexd n).toNat : Int)) w := by
  have h1 := hex_at n h
  unfold hexText at h1
  subst hi
  simp only [Instr.index, asIntOf, Sem.run_bind, Sem.run_pure, Result.andThen_ok, run_underlying Tryd.underlying9]
  rw [if_pos (Int.natCast_nonneg n), Int.toNat_natCast, h1]
  rfl


set_option maxRecDepth 100000 in
set_option maxHeartbeats 400000 in
theorem hex_any (s : ByteArray) (w : World) (hs : s.size ≤ 1000000) :
    Calls Tryd.prog 28 #[.string s] w fun e w' => e = .returned (.string ⟨(hexL s.data.toList).toArray⟩) ∧ Below w.heap.size w w' := by
  obtain ⟨i0, hi, hz0, hz1, hz2⟩ := info_parts Tryd.info5
  obtain ⟨wm, hmk0, hown0, hgr0⟩ := run_makeSlice_owned (P := Tryd.prog) w w.heap.size 43 5 i0 (.int .u8 0) 1 Tryd.underlying43 hi hz0 hz1 .i64 .i64 (2 * s.size) (by omega) (by rw [hz2]; omega) (by unfold maxLen; omega) (Nat.le_refl _)
  have HI := Lib.hid (And.intro hi (And.intro hz0 (And.intro hz1 hz2)))
  clear hi hz0 hz1 hz2
  have ec : ((2 * s.size : Nat) : Int) = 2 * (s.size : Int) := by omega
  rw [ec] at hmk0
  clear ec
  go_enter Tryd.func28, Tryd.ntmps28
  go_wp2
  have hB0 : Below w.heap.size w wm := (Below.refl _ _).grown hgr0 (Nat.le_refl _) (fun k h => by cases h)
  go_loopw [3, 11] (fun v i wr => ∃ k : Nat, ∃ l : List UInt8, k ≤ s.size ∧ i = .int .i64 k ∧ Hid (l = hexL (s.data.toList.take k)) ∧ OwB wr w.heap.size v l ∧ Below w.heap.size w wr) (fun _ i _ => s.size - (intOf i).toNat)
  case atStart => exact ⟨0, [], Nat.zero_le _, rfl, Lib.hid (by simp [hexL]), hown0, hB0⟩
  case round =>
    clear hown0 hgr0 hmk0 hB0
    obtain ⟨k, l, hk, rfl, hl, hown, hB⟩ := hrel
    have hz := hB.size
    by_cases hlt : k < s.size
    · have hki : (k : Int) < (s.size : Int) := by omega
      have hk0 : (0 : Int) ≤ (k : Int) := by omega
      have hlb : s[k].toNat < 256 := s[k].toNat_lt
      have ha := u8_and_nat s[k].toNat 15 hlb (by omega)
      rw [nat_mask4] at ha
      have x1 := run_hex .u8 ((s[k].toNat : Int) / 16) (s[k].toNat / 16) (by omega) (by omega)
      have x2 := run_hex .u8 ((s[k].toNat : Int) % 16) (s[k].toNat % 16) (by omega) (by omega)
      have ha' : bits .and .u8 (s[k].toNat : Int) 15 = (s[k].toNat : Int) % 16 := by rw [show (15 : Int) = ((15 : Nat) : Int) by rfl, ha]; omega
      clear ha
      go_wp2
      have hl1 : l.length ≤ 2000000 := by rw [hl.out, hexL_length, List.length_take]; omega
      have hnx : hexL (s.data.toList.take (k + 1)) = l ++ [hexd (s[k].toNat / 16), hexd (s[k].toNat % 16)] := by rw [take_snoc' s k hlt, hexL_snoc, ← hl.out]
      have HNX := Lib.hid hnx
      clear hnx
      go_region_law (refine step_bytes rfl (.tmp 14) (.tmp 25) rfl w.heap.size u3 l rfl (hown.keep ((Ch.drew (fun _ => False) wr).tr (Ch.alloc _ _ _)) (fun _ _ => id)) wr.heap.size [hexd (s[k].toNat / 16), hexd (s[k].toNat % 16)] 2 rfl rfl (heap_alloc_new wr.drew _) ?_ ?_ ?_; (omega); (simp; omega); intro v' w1 hown1 hgr)
      all_goals
        have hB1 : Below w.heap.size w w1 := (((Ch.of_new (S := fun _ => False) hB).tr ((Ch.drew _ wr).tr (Ch.alloc _ _ _))).trans hgr (fun j hj h => by have := (hown.own j h).1; omega)).new
        clear hgr hown hB hz x1 x2 ha'
        generalize [hexd (s[k].toNat / 16), hexd (s[k].toNat % 16)] = new at HNX hown1
        go_wp2
        go_roundw
        case rel => exact ⟨k + 1, _, by omega, by go_num, Lib.hid HNX.out.symm, hown1, hB1⟩
        case measure => simp [intOf]; omega
    · have hcv := conv_own hown
      go_wp2
      go_ret
      refine ⟨?_, hB⟩
      rw [hl.out, List.take_of_length_le (by simp; omega)]
      rfl
set_option maxRecDepth 100000 in
set_option maxHeartbeats 400000 in
theorem rhex_any (s : ByteArray) (w : World) (hs : s.size ≤ 1000000) :
    Calls Tryd.prog 30 #[.string s] w fun e w' => e = .returned (.string ⟨(hexL s.data.toList).toArray⟩) ∧ Below w.heap.size w w' := by
  go_enter Tryd.func30, Tryd.ntmps30
  go_wp2
  go_loopw [4, 5] (fun v i wr => ∃ k : Nat, ∃ l : List UInt8, k ≤ s.size ∧ i = .int .i64 k ∧ Hid (l = hexL (s.data.toList.take k)) ∧ OwB wr w.heap.size v l ∧ Below w.heap.size w wr) (fun _ i _ => s.size - (intOf i).toNat)
  case atStart => exact ⟨0, [], Nat.zero_le _, rfl, Lib.hid (by simp [hexL]), OwB.nil _ _, Below.refl _ _⟩
  case round =>
    obtain ⟨k, l, hk, rfl, hl, hown, hB⟩ := hrel
    have hz := hB.size
    by_cases hlt : k < s.size
    · have hki : (k : Int) < (s.size : Int) := by omega
      have hk0 : (0 : Int) ≤ (k : Int) := by omega
      have hlb : s[k].toNat < 256 := s[k].toNat_lt
      have x1 := run_hex .u8 ((s[k].toNat : Int) / 16) (s[k].toNat / 16) (by omega) (by omega)
      have x2 := run_hex .u8 ((s[k].toNat : Int).tmod 16) (s[k].toNat % 16) (by rw [Int.tmod_eq_emod_of_nonneg (Int.natCast_nonneg _)]; omega) (by omega)
      have hl1 : l.length ≤ 2000000 := by rw [hl.out, hexL_length, List.length_take]; omega
      have hnx : hexL (s.data.toList.take (k + 1)) = l ++ [hexd (s[k].toNat / 16), hexd (s[k].toNat % 16)] := by rw [take_snoc' s k hlt, hexL_snoc, ← hl.out]
      have HNX := Lib.hid hnx
      clear hnx
      have v1 : IntKind.u8.wrap ((s[k].toNat : Int) / 16) = (s[k].toNat : Int) / 16 := by rw [IntKind.wrap_u8']; omega
      go_wp2
      go_region_law (refine step_bytes rfl (.tmp 12) (.tmp 25) rfl w.heap.size u4 l rfl (hown.keep ((Ch.drew (fun _ => False) wr).tr (Ch.alloc _ _ _)) (fun _ _ => id)) wr.heap.size [hexd (s[k].toNat / 16), hexd (s[k].toNat % 16)] 2 rfl rfl (heap_alloc_new wr.drew _) ?_ ?_ ?_; (omega); (simp; omega); intro v' w1 hown1 hgr)
      all_goals
        have hB1 : Below w.heap.size w w1 := (((Ch.of_new (S := fun _ => False) hB).tr ((Ch.drew _ wr).tr (Ch.alloc _ _ _))).trans hgr (fun j hj h => by have := (hown.own j h).1; omega)).new
        clear hgr hown hB hz x1 x2 v1
        generalize [hexd (s[k].toNat / 16), hexd (s[k].toNat % 16)] = new at HNX hown1
        go_wp2
        go_roundw
        case rel => exact ⟨k + 1, _, by omega, by go_num, Lib.hid HNX.out.symm, hown1, hB1⟩
        case measure => simp [intOf]; omega
    · have hcv := conv_own hown
      go_wp2
      go_ret
      refine ⟨?_, hB⟩
      rw [hl.out, List.take_of_length_le (by simp; omega)]
      rfl

end Go.Proofs.YtmlllgcmhapadaaDoor
