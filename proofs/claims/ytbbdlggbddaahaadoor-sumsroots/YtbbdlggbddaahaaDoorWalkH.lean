/- Walks of Hex. -/
import Derived.Test.YtbbdlggbddaahaaDoorOwn
import Derived.StillTailTactics
import Derived.Deep.RegionLaw
import Derived.BigQuiet
import Derived.Lib.Hide
namespace Go.Proofs.YtbbdlggbddaahaaDoor
open Go.RowKit

theorem take_snoc' (s : ByteArray) (k : Nat) (h : k < s.size) : s.data.toList.take (k + 1) = s.data.toList.take k ++ [s[k]] := by
  rw [List.take_succ_eq_append_getElem (by simpa using h)]; rfl

set_option maxRecDepth 100000 in
set_option maxHeartbeats 400000 in
theorem hex_any (s : ByteArray) (w : World) (hs : s.size ≤ 1000000) :
    Calls Tryd.prog 15 #[.string s] w fun e w' => e = .returned (.string ⟨(hexL s.data.toList).toArray⟩) ∧ Below w.heap.size w w' := by
  obtain ⟨i0, hi, hz0, hz1, hz2⟩ := info_parts Tryd.info5
  obtain ⟨wm, hmk0, hown0, hgr0⟩ := run_makeSlice_owned (P := Tryd.prog) w w.heap.size 31 5 i0 (.int .u8 0) 1 Tryd.underlying31 hi hz0 hz1 .i64 .i64 (2 * s.size) (by omega) (by rw [hz2]; omega) (by unfold maxLen; omega) (Nat.le_refl _)
  have HI := Lib.hid (And.intro hi (And.intro hz0 (And.intro hz1 hz2)))
  clear hi hz0 hz1 hz2
  have ec : ((2 * s.size : Nat) : Int) = 2 * (s.size : Int) := by omega
  rw [ec] at hmk0
  clear ec
  go_enter Tryd.func15, Tryd.ntmps15
  go_wp2
  have hB0 : Below w.heap.size w wm := (Below.refl _ _).grown hgr0 (Nat.le_refl _) (fun k h => by cases h)
  go_loopw [3, 11] (fun v i wr => ∃ k : Nat, ∃ l : List UInt8, k ≤ s.size ∧ i = .int .i64 k ∧ Hid (l = hexL (s.data.toList.take k)) ∧ wr.ownsRow w.heap.size 5 1 v l.length (l.map bv) ∧ Below w.heap.size w wr) (fun _ i _ => s.size - (intOf i).toNat)
  case atStart => exact ⟨0, [], Nat.zero_le _, rfl, Lib.hid (by simp [hexL]), hown0, hB0⟩
  case round =>
    clear hown0 hgr0 hmk0 hB0
    obtain ⟨k, l, hk, rfl, hl, hown, hB⟩ := hrel
    have hz := hB.size
    by_cases hlt : k < s.size
    · have hki : (k : Int) < (s.size : Int) := by omega
      have hk0 : (0 : Int) ≤ (k : Int) := by omega
      have hlb : s[k].toNat < 256 := s[k].toNat_lt
      have ha := u8_and_nat s[k].toNat 15 hlb (by omega)
      rw [nat_mask4] at ha
      have x1 := run_hex .u8 ((s[k].toNat : Int) / 16) (s[k].toNat / 16) (by omega) (by omega)
      have x2 := run_hex .u8 ((s[k].toNat : Int) % 16) (s[k].toNat % 16) (by omega) (by omega)
      have ha' : bits .and .u8 (s[k].toNat : Int) 15 = (s[k].toNat : Int) % 16 := by rw [show (15 : Int) = ((15 : Nat) : Int) by rfl, ha]; omega
      clear ha
      go_wp2
      have hl1 : l.length ≤ 2000000 := by rw [hl.out, hexL_length, List.length_take]; omega
      have hnx : hexL (s.data.toList.take (k + 1)) = l ++ [hexd (s[k].toNat / 16), hexd (s[k].toNat % 16)] := by rw [take_snoc' s k hlt, hexL_snoc, ← hl.out]
      have HNX := Lib.hid hnx
      clear hnx
      go_region_law (refine step_bytes rfl (.tmp 14) (.tmp 25) rfl w.heap.size u3 l rfl (World.ownsRow.alloc (w := wr.drew) hown _) wr.heap.size [hexd (s[k].toNat / 16), hexd (s[k].toNat % 16)] 2 rfl rfl (heap_alloc_new wr.drew _) ?_ ?_ ?_; (omega); (simp; omega); intro v' w1 hown1 hgr)
      all_goals
        have hB1 : Below w.heap.size w w1 := (hB.alloc hz _).drew.grown hgr (by simp; omega) (fun k hk => (hown.lt k hk).1)
        clear hgr hown hB hz x1 x2 ha'
        generalize [hexd (s[k].toNat / 16), hexd (s[k].toNat % 16)] = new at HNX hown1
        go_wp2
        go_roundw
        case rel => exact ⟨k + 1, _, by omega, by go_num, Lib.hid HNX.out.symm, hown1, hB1⟩
        case measure => simp [intOf]; omega
    · have hcv := conv_own hown
      go_wp2
      go_ret
      refine ⟨?_, hB⟩
      rw [hl.out, List.take_of_length_le (by simp; omega)]
      rfl
end Go.Proofs.YtbbdlggbddaahaaDoor
