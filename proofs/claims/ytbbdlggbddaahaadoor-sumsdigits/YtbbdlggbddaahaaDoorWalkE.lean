/- Walks of the document's Hex and Raw. -/
import Derived.Test.YtbbdlggbddaahaaDoorWalkD
import Derived.Test.YtbbdlggbddaahaaDoorWalkH
namespace Go.Proofs.YtbbdlggbddaahaaDoor
open Go.RowKit

set_option maxRecDepth 100000 in
set_option maxHeartbeats 400000 in
theorem rhex_any (s : ByteArray) (w : World) (hs : s.size ≤ 1000000) :
    Calls Tryd.prog 18 #[.string s] w fun e w' => e = .returned (.string ⟨(hexL s.data.toList).toArray⟩) ∧ Below w.heap.size w w' := by
  go_enter Tryd.func18, Tryd.ntmps18
  go_wp2
  go_loopw [4, 5] (fun v i wr => ∃ k : Nat, ∃ l : List UInt8, k ≤ s.size ∧ i = .int .i64 k ∧ Hid (l = hexL (s.data.toList.take k)) ∧ wr.ownsRow w.heap.size 5 1 v l.length (l.map bv) ∧ Below w.heap.size w wr) (fun _ i _ => s.size - (intOf i).toNat)
  case atStart => exact ⟨0, [], Nat.zero_le _, rfl, Lib.hid (by simp [hexL]), World.ownsRow_nil _ _ _ _, Below.refl _ _⟩
  case round =>
    obtain ⟨k, l, hk, rfl, hl, hown, hB⟩ := hrel
    have hz := hB.size
    by_cases hlt : k < s.size
    · have hki : (k : Int) < (s.size : Int) := by omega
      have hk0 : (0 : Int) ≤ (k : Int) := by omega
      have hlb : s[k].toNat < 256 := s[k].toNat_lt
      have x1 := run_hex .u8 ((s[k].toNat : Int) / 16) (s[k].toNat / 16) (by omega) (by omega)
      have x2 := run_hex .u8 ((s[k].toNat : Int).tmod 16) (s[k].toNat % 16) (by rw [Int.tmod_eq_emod_of_nonneg (Int.natCast_nonneg _)]; omega) (by omega)
      have hl1 : l.length ≤ 2000000 := by rw [hl.out, hexL_length, List.length_take]; omega
      have hnx : hexL (s.data.toList.take (k + 1)) = l ++ [hexd (s[k].toNat / 16), hexd (s[k].toNat % 16)] := by rw [take_snoc' s k hlt, hexL_snoc, ← hl.out]
      have HNX := Lib.hid hnx
      clear hnx
      have v1 : IntKind.u8.wrap ((s[k].toNat : Int) / 16) = (s[k].toNat : Int) / 16 := by rw [IntKind.wrap_u8']; omega
      go_wp2
      go_region_law (refine step_bytes rfl (.tmp 12) (.tmp 25) rfl w.heap.size u4 l rfl (World.ownsRow.alloc (w := wr.drew) hown _) wr.heap.size [hexd (s[k].toNat / 16), hexd (s[k].toNat % 16)] 2 rfl rfl (heap_alloc_new wr.drew _) ?_ ?_ ?_; (omega); (simp; omega); intro v' w1 hown1 hgr)
      all_goals
        have hB1 : Below w.heap.size w w1 := (hB.alloc hz _).drew.grown hgr (by simp; omega) (fun k hk => (hown.lt k hk).1)
        clear hgr hown hB hz x1 x2 v1
        generalize [hexd (s[k].toNat / 16), hexd (s[k].toNat % 16)] = new at HNX hown1
        go_wp2
        go_roundw
        case rel => exact ⟨k + 1, _, by omega, by go_num, Lib.hid HNX.out.symm, hown1, hB1⟩
        case measure => simp [intOf]; omega
    · have hcv := conv_own hown
      go_wp2
      go_ret
      refine ⟨?_, hB⟩
      rw [hl.out, List.take_of_length_le (by simp; omega)]
      rfl

set_option maxRecDepth 100000 in
set_option maxHeartbeats 400000 in
theorem rraw_any (s : ByteArray) (w : World) (hs : s.size ≤ 1000000) :
    Calls Tryd.prog 17 #[.string s] w fun e w' => e = .returned (.tuple #[.string (rawT s.data.toList), .bool (rawB s.data.toList)]) ∧ Below w.heap.size w w' := by
  by_cases hodd : s.size % 2 = 0
  · have ho : ((s.size : Int) % 2 != 0) = false := by simp; omega
    have HO := Lib.hid hodd
    clear hodd
    go_enter Tryd.func17, Tryd.ntmps17
    go_wp2
    go_loopw [4, 5] (fun v i wr => ∃ n : Nat, ∃ l : List UInt8, 2 * n ≤ s.size ∧ i = .int .i64 ((2 * n : Nat) : Int) ∧ Hid (rawL (s.data.toList.take (2 * n)) = some l) ∧ Hid (l.length = n) ∧ wr.ownsRow w.heap.size 5 1 v l.length (l.map bv) ∧ Below w.heap.size w wr) (fun _ i _ => s.size - (intOf i).toNat)
    case atStart => exact ⟨0, [], Nat.zero_le _, rfl, Lib.hid rfl, Lib.hid rfl, World.ownsRow_nil _ _ _ _, Below.refl _ _⟩
    case round =>
      obtain ⟨n, l, hk, rfl, hl, hll, hown, hB⟩ := hrel
      have hz := hB.size
      by_cases hlt : 2 * n < s.size
      · have hlt1 : 2 * n + 1 < s.size := by have := HO.out; omega
        have hi1 : 2 * (n : Int) < (s.size : Int) := by omega
        have hi2 : 2 * (n : Int) + 1 < (s.size : Int) := by omega
        have b1 : (s[2 * n]'hlt).toNat < 256 := (s[2 * n]'hlt).toNat_lt
        have b2 : s[2 * n + 1].toNat < 256 := s[2 * n + 1].toNat_lt
        have E1 := Lib.hid (raw_step s n l hlt1 hl.out)
        have E2 := Lib.hid (raw_stop s n hlt1)
        have hl1 : l.length ≤ 1000000 := by rw [hll.out]; omega
        generalize hx1 : (s[2 * n]'hlt).toNat = x1 at b1 E1 E2
        generalize hx2 : s[2 * n + 1].toNat = x2 at b2 E1 E2
        by_cases o1 : dvOk x1 = true
        · by_cases o2 : dvOk x2 = true
          · have y1 := dvN_lt x1 o1
            have y2 := dvN_lt x2 o2
            have E := Lib.hid (E1.out o1 o2)
            have p1 := dg_yes x1 o1
            have p2 := dg_yes x2 o2
            generalize dvN x1 = r1 at E y1 p1
            generalize dvN x2 = r2 at E y2 p2
            have hv : ((r1 : Int) * 16 + (r2 : Int)) % 256 = ((UInt8.ofNat (16 * r1 + r2)).toNat : Int) := by
              rw [UInt8.toNat_ofNat']; omega
            generalize UInt8.ofNat (16 * r1 + r2) = nb at hv E
            have P := Lib.hid (And.intro p1 p2)
            clear p1 p2 o1 o2 E1 E2
            have q1 : (0 : Int) ≤ (r1 : Int) := by omega
            have q2 : (0 : Int) ≤ (r2 : Int) := by omega
            go_wp2_with (go_at_call 30; (first | (with_reducible refine (P.out.1 _).mono ?_) | (with_reducible refine (P.out.2 _).mono ?_)); rintro e w' ⟨rfl, rfl⟩)
            have v1 : IntKind.i64.wrap (2 * (n : Int) + 1) = 2 * (n : Int) + 1 := IntWalk.i64_in _ (by omega)
            have v2 : IntKind.i64.wrap ((r1 : Int) * 16) = (r1 : Int) * 16 := IntWalk.i64_in _ (by omega)
            have v3 : IntKind.i64.wrap ((r1 : Int) * 16 + (r2 : Int)) = (r1 : Int) * 16 + (r2 : Int) := IntWalk.i64_in _ (by omega)
            have v4 : IntKind.u8.wrap ((r1 : Int) * 16 + (r2 : Int)) = (nb.toNat : Int) := by rw [IntKind.wrap_u8']; exact hv
            have v5 : (2 * (n : Int) + 1).toNat = 2 * n + 1 := by omega
            have v6 : (2 * (n : Int)).toNat = 2 * n := by omega
            have v7 : (0 : Int) ≤ 2 * (n : Int) + 1 := by omega
            go_region_law (first | (refine step_bytes rfl (.tmp 29) (.tmp 42) rfl w.heap.size u4 l rfl (World.ownsRow.alloc (w := wr.drew) hown _) wr.heap.size [nb] 1 rfl rfl (heap_alloc_new wr.drew _) ?_ ?_ ?_; (omega); (simp; omega); intro v' w1 hown1 hgr) | (go_simp; go_at_call 30; (first | (with_reducible refine (P.out.1 _).mono ?_) | (with_reducible refine (P.out.2 _).mono ?_)); rintro e w' ⟨rfl, rfl⟩))
            all_goals
              have hB1 : Below w.heap.size w w1 := (hB.alloc hz _).drew.grown hgr (by simp; omega) (fun k hk => (hown.lt k hk).1)
              clear hgr hown hB hz hv v1 v2 v3 v4 v5 v6 v7
              go_wp2
              go_roundw
              case rel => exact ⟨n + 1, _, by omega, by go_num, Lib.hid E.out, Lib.hid (by rw [List.length_append, hll.out]; rfl), hown1, hB1⟩
              case measure => simp [intOf]; omega
          · have o2' : dvOk x2 = false := by simpa using o2
            have F := Lib.hid (rawT_none (E2.out (by rw [o2', Bool.and_false])))
            have P := Lib.hid (And.intro (dg_yes x1 o1) (dg_no x2 o2'))
            clear o1 o2 o2' E1 E2
            generalize dvN x1 = r1 at P
            go_wp2_with (go_at_call 30; (first | (with_reducible refine (P.out.1 _).mono ?_) | (with_reducible refine (P.out.2 _).mono ?_)); rintro e w' ⟨rfl, rfl⟩)
            go_ret2
            exact ⟨by rw [F.out.1, F.out.2]; rfl, hB⟩
        · have o1' : dvOk x1 = false := by simpa using o1
          have F := Lib.hid (rawT_none (E2.out (by rw [o1', Bool.false_and])))
          have P := Lib.hid (dg_no x1 o1')
          clear o1 o1' E1 E2
          go_wp2_with (go_at_call 30; (with_reducible refine (P.out _).mono ?_); rintro e w' ⟨rfl, rfl⟩)
          go_ret2
          exact ⟨by rw [F.out.1, F.out.2]; rfl, hB⟩
      · have hcv := conv_own hown
        have e : (rawT s.data.toList) = ⟨l.toArray⟩ ∧ rawB s.data.toList = true := by
          have h := hl.out
          rw [List.take_of_length_le (by have : s.data.toList.length = s.size := rfl; omega)] at h
          unfold rawT rawB; rw [h]; exact ⟨rfl, rfl⟩
        have E := Lib.hid e
        clear e
        go_wp2
        go_ret2
        exact ⟨by rw [E.out.1, E.out.2]; rfl, hB⟩
  · have e : (rawT s.data.toList) = ⟨#[]⟩ ∧ rawB s.data.toList = false := rawT_none (rawL_odd _ (show s.data.toList.length % 2 ≠ 0 from hodd))
    rw [e.1, e.2]
    have ho : ((s.size : Int) % 2 != 0) = true := by simp; omega
    clear hodd e
    go_enter Tryd.func17, Tryd.ntmps17
    go_wp2
    go_ret2
    exact ⟨rfl, Below.refl _ _⟩
end Go.Proofs.YtbbdlggbddaahaaDoor
