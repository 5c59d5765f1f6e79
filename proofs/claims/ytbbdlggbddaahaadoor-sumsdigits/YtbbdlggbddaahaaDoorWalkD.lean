/- Walks of Raw. -/
import Derived.Test.YtbbdlggbddaahaaDoorRaw
import Derived.Deep.RegionLaw
import Derived.BigQuiet
import Derived.Lib.Hide
namespace Go.Proofs.YtbbdlggbddaahaaDoor
open Go.RowKit

theorem ret_dv {k : IntKind} {a b : Int} {x : Bool} (h : a = b) : Ending.returned (.tuple #[.int k a, .bool x]) = .returned (.tuple #[.int k b, .bool x]) := by rw [h]
theorem ret_one {k : IntKind} {a b : Int} (h : a = b) : Ending.returned (.int k a) = .returned (.int k b) := by rw [h]
theorem dv_cases {n : Nat} (h : dvOk n = true) : (48 ≤ n ∧ n ≤ 57 ∧ ((dvN n : Nat) : Int) = (n : Int) - 48) ∨ (97 ≤ n ∧ n ≤ 102 ∧ ((dvN n : Nat) : Int) = (n : Int) - 97 + 10) := by
  unfold dvOk at h; unfold dvN
  simp only [Bool.or_eq_true, Bool.and_eq_true, decide_eq_true_eq] at h
  rcases h with h | h
  · left; refine ⟨h.1, h.2, ?_⟩; rw [if_pos h.2]; omega
  · right; refine ⟨h.1, h.2, ?_⟩; rw [if_neg (by omega)]; omega
theorem dv_not {n : Nat} (h : dvOk n = false) : n < 48 ∨ (57 < n ∧ n < 97) ∨ 102 < n := by
  unfold dvOk at h
  simp only [Bool.or_eq_false_iff, Bool.and_eq_false_iff, decide_eq_false_iff_not] at h
  omega
set_option maxHeartbeats 400000 in
theorem dv_yes (n : Nat) (h : dvOk n = true) (w : World) :
    Calls Tryd.prog 29 #[.int .u8 n] w fun e w' => e = .returned (.tuple #[.int .u8 (dvN n : Nat), .bool true]) ∧ w = w' := by
  rcases dv_cases h with ⟨a, b, e⟩ | ⟨a, b, e⟩
  all_goals
    have E := Lib.hid e
    clear e h
    generalize dvN n = r at E ⊢
    go_enter Tryd.func29, Tryd.ntmps29
    go_wp2
    go_ret2
    exact ⟨ret_dv (by rw [E.out]), rfl⟩
set_option maxHeartbeats 400000 in
theorem dv_no (n : Nat) (h : dvOk n = false) (w : World) :
    Calls Tryd.prog 29 #[.int .u8 n] w fun e w' => e = .returned (.tuple #[.int .u8 0, .bool false]) ∧ w = w' := by
  have h' := dv_not h
  clear h
  rcases h' with a | ⟨a, b⟩ | a
  all_goals
    go_enter Tryd.func29, Tryd.ntmps29
    go_wp2
    go_ret2
    exact ⟨rfl, rfl⟩
set_option maxHeartbeats 400000 in
theorem dg_yes (n : Nat) (h : dvOk n = true) (w : World) :
    Calls Tryd.prog 30 #[.int .u8 n] w fun e w' => e = .returned (.int .i64 (dvN n : Nat)) ∧ w = w' := by
  rcases dv_cases h with ⟨a, b, e⟩ | ⟨a, b, e⟩
  all_goals
    have E := Lib.hid e
    clear e h
    generalize dvN n = r at E ⊢
    go_enter Tryd.func30, Tryd.ntmps30
    go_wp2
    go_ret
    exact ⟨ret_one (by rw [E.out]), rfl⟩
set_option maxHeartbeats 400000 in
theorem dg_no (n : Nat) (h : dvOk n = false) (w : World) :
    Calls Tryd.prog 30 #[.int .u8 n] w fun e w' => e = .returned (.int .i64 (-1)) ∧ w = w' := by
  have h' := dv_not h
  clear h
  rcases h' with a | ⟨a, b⟩ | a
  all_goals
    go_enter Tryd.func30, Tryd.ntmps30
    go_wp2
    go_ret
    exact ⟨rfl, rfl⟩

theorem dv_some (n : Nat) : ∃ (a : Int) (b : Bool), ∀ w, Calls Tryd.prog 29 #[.int .u8 n] w fun e w' => e = .returned (.tuple #[.int .u8 a, .bool b]) ∧ w = w' := by
  cases h : dvOk n with
  | true => exact ⟨_, _, dv_yes n h⟩
  | false => exact ⟨_, _, dv_no n h⟩
theorem rawT_none {l : List UInt8} (h : rawL l = none) : rawT l = ⟨#[]⟩ ∧ rawB l = false := by
  unfold rawT rawB; rw [h]; exact ⟨rfl, rfl⟩

set_option maxRecDepth 100000 in
set_option maxHeartbeats 400000 in
theorem raw_any (s : ByteArray) (w : World) (hs : s.size ≤ 1000000) :
    Calls Tryd.prog 16 #[.string s] w fun e w' => e = .returned (.tuple #[.string (rawT s.data.toList), .bool (rawB s.data.toList)]) ∧ Below w.heap.size w w' := by
  by_cases hodd : s.size % 2 = 0
  · obtain ⟨hf, hhf⟩ : ∃ hf, hf = s.size / 2 := ⟨_, rfl⟩
    obtain ⟨i0, hi, hz0, hz1, hz2⟩ := info_parts Tryd.info5
    obtain ⟨wm, hmk0, hown0, hgr0⟩ := run_makeSlice_owned (P := Tryd.prog) w w.heap.size 31 5 i0 (.int .u8 0) 1 Tryd.underlying31 hi hz0 hz1 .i64 .i64 hf (by omega) (by rw [hz2]; omega) (by unfold maxLen; omega) (Nat.le_refl _)
    clear hi hz0 hz1 hz2
    have ec : ((hf : Nat) : Int) = (s.size : Int) / 2 := by omega
    rw [ec] at hmk0
    clear ec
    have ho : ((s.size : Int) % 2 != 0) = false := by simp; omega
    have HO := Lib.hid hodd
    clear hodd hhf
    have hB0 : Below w.heap.size w wm := (Below.refl _ _).grown hgr0 (Nat.le_refl _) (fun k h => by cases h)
    go_enter Tryd.func16, Tryd.ntmps16
    go_wp2
    go_loopw [4, 5] (fun v i wr => ∃ n : Nat, ∃ l : List UInt8, 2 * n ≤ s.size ∧ i = .int .i64 ((2 * n : Nat) : Int) ∧ Hid (rawL (s.data.toList.take (2 * n)) = some l) ∧ Hid (l.length = n) ∧ wr.ownsRow w.heap.size 5 1 v l.length (l.map bv) ∧ Below w.heap.size w wr) (fun _ i _ => s.size - (intOf i).toNat)
    case atStart => exact ⟨0, [], Nat.zero_le _, rfl, Lib.hid rfl, Lib.hid rfl, hown0, hB0⟩
    case round =>
      clear hown0 hgr0 hmk0 hB0
      obtain ⟨n, l, hk, rfl, hl, hll, hown, hB⟩ := hrel
      have hz := hB.size
      by_cases hlt : 2 * n < s.size
      · have hlt1 : 2 * n + 1 < s.size := by have := HO.out; omega
        have hi1 : 2 * (n : Int) < (s.size : Int) := by omega
        have hi2 : 2 * (n : Int) + 1 < (s.size : Int) := by omega
        have b1 : (s[2 * n]'hlt).toNat < 256 := (s[2 * n]'hlt).toNat_lt
        have b2 : s[2 * n + 1].toNat < 256 := s[2 * n + 1].toNat_lt
        have E1 := Lib.hid (raw_step s n l hlt1 hl.out)
        have E2 := Lib.hid (raw_stop s n hlt1)
        have hl1 : l.length ≤ 1000000 := by rw [hll.out]; omega
        generalize hx1 : (s[2 * n]'hlt).toNat = x1 at b1 E1 E2
        generalize hx2 : s[2 * n + 1].toNat = x2 at b2 E1 E2
        by_cases o1 : dvOk x1 = true
        · by_cases o2 : dvOk x2 = true
          · have y1 := dvN_lt x1 o1
            have y2 := dvN_lt x2 o2
            have E := Lib.hid (E1.out o1 o2)
            have p1 := dv_yes x1 o1
            have p2 := dv_yes x2 o2
            generalize dvN x1 = r1 at E y1 p1
            generalize dvN x2 = r2 at E y2 p2
            have hv : bits .or .u8 ((r1 : Int) * 16) (r2 : Int) = ((UInt8.ofNat (16 * r1 + r2)).toNat : Int) := by
              have h1 := u8_or_nat (r1 * 16) r2 (by omega) (by omega)
              rw [nat_join 4 (r1 * 16) r2 (by omega) (by omega)] at h1
              rw [UInt8.toNat_ofNat']
              have e : ((r1 * 16 : Nat) : Int) = (r1 : Int) * 16 := by omega
              rw [e] at h1
              rw [h1]; omega
            generalize UInt8.ofNat (16 * r1 + r2) = nb at hv E
            have P := Lib.hid (And.intro p1 p2)
            clear p1 p2 o1 o2 E1 E2
            go_wp2_with (first | (go_at_call 29; (first | (with_reducible refine (P.out.1 _).mono ?_) | (with_reducible refine (P.out.2 _).mono ?_)); rintro e w' ⟨rfl, rfl⟩) | (at_builtin; refine wpList_bytes rfl (.tmp 45) (.tmp 50) rfl w.heap.size u4 l rfl (World.ownsRow.alloc hown _) wr.heap.size [nb] 1 rfl rfl (heap_alloc_new wr _) ?_ ?_ ?_; (omega); (simp; omega); intro v' w1 hown1 hgr))
            have hB1 : Below w.heap.size w w1 := (hB.alloc hz _).grown hgr (by simp; omega) (fun k hk => (hown.lt k hk).1)
            clear hgr hown hB hv
            go_roundw
            case rel => exact ⟨n + 1, _, by omega, by go_num, Lib.hid E.out, Lib.hid (by rw [List.length_append, hll.out]; rfl), hown1, hB1⟩
            case measure => simp [intOf]; omega
          · have o2' : dvOk x2 = false := by simpa using o2
            have F := Lib.hid (rawT_none (E2.out (by rw [o2', Bool.and_false])))
            have P := Lib.hid (And.intro (dv_yes x1 o1) (dv_no x2 o2'))
            clear o1 o2 o2' E1 E2
            generalize dvN x1 = r1 at P
            go_wp2_with (go_at_call 29; (first | (with_reducible refine (P.out.1 _).mono ?_) | (with_reducible refine (P.out.2 _).mono ?_)); rintro e w' ⟨rfl, rfl⟩)
            go_ret2
            exact ⟨by rw [F.out.1, F.out.2]; rfl, hB⟩
        · have o1' : dvOk x1 = false := by simpa using o1
          have F := Lib.hid (rawT_none (E2.out (by rw [o1', Bool.false_and])))
          obtain ⟨a2, k2, p2⟩ := dv_some x2
          have P := Lib.hid (And.intro (dv_no x1 o1') p2)
          clear o1 o1' E1 E2 p2
          go_wp2_with (go_at_call 29; (first | (with_reducible refine (P.out.1 _).mono ?_) | (with_reducible refine (P.out.2 _).mono ?_)); rintro e w' ⟨rfl, rfl⟩)
          go_ret2
          exact ⟨by rw [F.out.1, F.out.2]; rfl, hB⟩
      · have hcv := conv_own hown
        have e : (rawT s.data.toList) = ⟨l.toArray⟩ ∧ rawB s.data.toList = true := by
          have h := hl.out
          rw [List.take_of_length_le (by have : s.data.toList.length = s.size := rfl; omega)] at h
          unfold rawT rawB; rw [h]; exact ⟨rfl, rfl⟩
        have E := Lib.hid e
        clear e
        go_wp2
        go_ret2
        exact ⟨by rw [E.out.1, E.out.2]; rfl, hB⟩
  · have e : (rawT s.data.toList) = ⟨#[]⟩ ∧ rawB s.data.toList = false := by
      unfold rawT rawB; rw [rawL_odd _ (show s.data.toList.length % 2 ≠ 0 from hodd)]; exact ⟨rfl, rfl⟩
    rw [e.1, e.2]
    have ho : ((s.size : Int) % 2 != 0) = true := by simp; omega
    clear hodd e
    go_enter Tryd.func16, Tryd.ntmps16
    go_wp2
    go_ret2
    exact ⟨rfl, Below.refl _ _⟩
end Go.Proofs.YtbbdlggbddaahaaDoor
