/- Walks of Less over texts, same, and the document's Head and Rises. -/
import Derived.Test.YtlgamaldngkdnaaPairs
import Derived.BigQuiet
import Derived.Deep.QuietTactic
namespace Go.Proofs.Ytlgamaldngkdnaa
open Go Go.RowKit

/-- A text below another one. -/
def lt (s t : ByteArray) : Bool := Op.bytesLess s.toList t.toList
theorem lt_def (s t : ByteArray) : Op.bytesLess s.toList t.toList = lt s t := rfl
/-- Do the first n keys rise? -/
def riseN (xs : List Pr) : Nat → Bool
  | 0 => true
  | n + 1 => riseN xs n && (n == 0 || lt (ky xs (n - 1)) (ky xs n))
theorem riseN_succ (xs : List Pr) (n : Nat) (h : 1 ≤ n) : riseN xs (n + 1) = (riseN xs n && lt (ky xs (n - 1)) (ky xs n)) := by
  rw [riseN, show (n == 0) = false by simp; omega, Bool.false_or]
theorem riseN_false (xs : List Pr) (n m : Nat) (h : riseN xs n = false) (hm : n ≤ m) : riseN xs m = false := by
  induction m with
  | zero => rw [show n = 0 by omega] at h; exact h
  | succ m ih =>
    by_cases e : n = m + 1
    · rw [← e]; exact h
    · rw [riseN, ih (by omega), Bool.false_and]

set_option maxHeartbeats 400000 in
theorem isNaN_str (s : ByteArray) (w : World) : Calls Try.prog 49 #[.string s] w fun e w' => e = .returned (.bool false) ∧ w' = w := by
  go_enter Try.func49, Try.ntmps49
  go_wp2
  go_ret
  exact ⟨by simp, rfl⟩
set_option maxHeartbeats 400000 in
theorem less_str (s t : ByteArray) (w : World) : Calls Try.prog 37 #[.string s, .string t] w fun e w' => e = .returned (.bool (lt s t)) ∧ w' = w := by
  go_enter Try.func37, Try.ntmps37
  go_wp2_with (go_at_call 49; refine (isNaN_str _ _).mono ?_; rintro e w' ⟨rfl, rfl⟩)
  go_ret
  exact ⟨rfl, rfl⟩
set_option maxRecDepth 100000 in
set_option maxHeartbeats 400000 in
theorem rrises_any (a : Option Addr) (cap : Nat) (xs : List Pr) (hn : xs.length ≤ 1000) (w : World) (hr : Rd w a xs) :
    Calls Try.prog 21 #[.slice a xs.length cap] w fun e w' => e = .returned (.bool (riseN xs xs.length)) ∧ Ch (fun _ => False) w w' := by
  have hlt0 := lt_def
  go_enter Try.func21, Try.ntmps21
  go_wp2
  go_loopw [3] (fun i wr => ∃ (ii : Nat), i = .int .i64 (ii : Int) ∧ 1 ≤ ii ∧ Hid (riseN xs ii = true ∧ (ii ≤ xs.length ∨ ii = 1)) ∧ Ch (fun _ => False) w wr) (fun i _ => xs.length - (intOf i).toNat)
  case atStart => exact ⟨1, rfl, by omega, Lib.hid ⟨rfl, .inr rfl⟩, Ch.refl _ _⟩
  case round =>
    obtain ⟨ii, rfl, hi1, hR, hch⟩ := hrel
    by_cases hlt : ii < xs.length
    · have hlt' : (ii : Int) < (xs.length : Int) := by omega
      have hi0 : (0 : Int) ≤ (ii : Int) := by omega
      have hi0' : (0 : Int) ≤ (ii : Int) - 1 := by omega
      have hlt'' : (ii : Int) - 1 < (xs.length : Int) := by omega
      have e1 : IntKind.i64.wrap ((ii : Int) - 1) = (ii : Int) - 1 := IntWalk.i64_in _ (by omega)
      have e2 : ((ii : Int) - 1).toNat = ii - 1 := by omega
      have hr2 := hr.keep hch (fun _ _ => id)
      obtain ⟨b, off, rfl, hc1, _⟩ := hr2 ii hlt
      obtain ⟨b', off', he, hc2, _⟩ := hr2 (ii - 1) (by omega)
      obtain ⟨rfl, rfl⟩ : b = b' ∧ off = off' := by injection he with h; injection h with h1 h2; exact ⟨h1, h2⟩
      have HS := Lib.hid (riseN_succ xs ii hi1)
      have hcd : ∀ n, Ch (fun _ => False) w (wr.drewN n) := fun n => hch.tr (Ch.drewN _ wr n)
      clear he hr2 hch
      generalize ky xs ii = k1 at hc1 HS
      generalize ky xs (ii - 1) = k0 at hc2 HS
      cases hk : lt k0 k1 with
      | true =>
        have HK := Lib.hid hk
        go_wp2_with fail
        go_quiet (fail)
        go_wp2
        go_roundw
        case rel => exact ⟨ii + 1, by go_num, by omega, Lib.hid ⟨by rw [HS.out, hR.out.1, HK.out]; rfl, .inl (by omega)⟩, hcd _⟩
        case measure => simp [intOf]; omega
      | false =>
        have HK := Lib.hid hk
        go_wp2_with fail
        go_quiet (fail)
        go_wp2
        go_ret
        refine ⟨?_, hcd _⟩
        rw [riseN_false xs (ii + 1) xs.length (by rw [HS.out, HK.out, Bool.and_false]) (by omega)]
        rfl
    · have hlt' : (xs.length : Int) ≤ (ii : Int) := by omega
      go_wp2
      go_ret
      refine ⟨?_, hch⟩
      have h1 : riseN xs xs.length = true := by
        rcases hR.out.2 with h | h
        · rw [show xs.length = ii by omega]; exact hR.out.1
        · rcases (show xs.length = 0 ∨ xs.length = 1 by omega) with h0 | h0
          · rw [h0]; rfl
          · rw [h0]; rfl
      rw [h1]
      rfl
set_option maxRecDepth 100000 in
set_option maxHeartbeats 400000 in
/-- The document's Head. -/
theorem rhead_any (a : Option Addr) (cap : Nat) (xs : List Pr) (hn : xs.length ≤ 1000) (n : Int) (w : World) (hr : Rd w a xs) :
    Calls Try.prog 19 #[.slice a xs.length cap, .int .i64 n] w fun e w' => ∃ v, e = .returned v ∧ Ow w' w.heap.size 30 v (xs.take n.toNat) ∧ Ch (fun _ => False) w w' := by
  go_enter Try.func19, Try.ntmps19
  go_wp2
  go_loopw [5, 6] (fun v i wr => ∃ (ii : Nat), i = .int .i64 (ii : Int) ∧ ii ≤ xs.length ∧ (ii : Int) ≤ max 0 n ∧ Ow wr w.heap.size 30 v (xs.take ii) ∧ Ch (fun _ => False) w wr) (fun _ i _ => xs.length - (intOf i).toNat)
  case atStart => exact ⟨0, rfl, Nat.zero_le _, by omega, Ow.nil _ _ _, Ch.refl _ _⟩
  case round =>
    obtain ⟨ii, rfl, hi, him, hown, hch⟩ := hrel
    by_cases hlt : ii < xs.length
    · have hlt' : (ii : Int) < (xs.length : Int) := by omega
      have hi0 : (0 : Int) ≤ (ii : Int) := by omega
      by_cases hin : (ii : Int) < n
      · obtain ⟨b, off, rfl, hc1, hc2⟩ := (hr.keep hch (fun _ _ => id)) ii hlt
        have HT := Lib.hid (take_succ_pr xs ii hlt)
        have hz := hch.size
        have HM := Lib.hid him
        clear him
        generalize ky xs ii = kk at hc1 HT
        generalize vl xs ii = vv at hc2 HT
        have h2 : Ow (wr.alloc (.cells #[.string kk, .int .i64 vv] 30)) w.heap.size 30 u5 (xs.take ii) := hown.keep (Ch.alloc (fun _ => False) _ _) (fun _ _ _ => id)
        go_wp2_with (at_builtin; refine wpList_pair rfl (.tmp 18) (.tmp 23) 22 30 rfl Try.underlying22 Try.info30 w.heap.size u5 (xs.take ii) rfl h2 _ kk vv rfl (heap_alloc_new _ _) (by simp; omega) (by simp; omega) ?_; intro v' w3 hown3 hc3)
        have hch3 : Ch (fun _ => False) w w3 := (hch.tr (Ch.alloc _ _ _)).trans hc3 (fun j hj h => by omega)
        clear hown h2 hc1 hc2 hc3 hch
        go_wp2
        go_roundw
        case rel => exact ⟨ii + 1, by go_num, by omega, by omega, by rw [HT.out]; exact hown3, hch3⟩
        case measure => simp [intOf]; omega
      · have ht : xs.take n.toNat = xs.take ii := by rw [show n.toNat = ii by omega]
        have HT := Lib.hid ht
        clear ht
        go_wp2
        go_ret
        exact ⟨_, rfl, by rw [HT.out]; exact hown, hch⟩
    · have hlt' : (xs.length : Int) ≤ (ii : Int) := by omega
      have ht : xs.take n.toNat = xs.take ii := by rw [List.take_of_length_le (by omega), List.take_of_length_le (by omega)]
      have HT := Lib.hid ht
      clear ht
      go_wp2
      go_ret
      exact ⟨_, rfl, by rw [HT.out]; exact hown, hch⟩
set_option maxRecDepth 100000 in
set_option maxHeartbeats 400000 in
/-- Two lists of the same pairs are the same. -/
theorem same_any (a b : Option Addr) (c1 c2 : Nat) (xs : List Pr) (hn : xs.length ≤ 1000) (w : World) (ha : Rd w a xs) (hb : Rd w b xs) :
    Calls Try.prog 16 #[.slice a xs.length c1, .slice b xs.length c2] w fun e w' => e = .returned (.bool true) ∧ Ch (fun _ => False) w w' := by
  go_enter Try.func16, Try.ntmps16
  go_wp2
  go_loopw [14] (fun i wr => ∃ (ii : Nat), i = .int .i64 (ii : Int) ∧ ii ≤ xs.length ∧ Ch (fun _ => False) w wr) (fun i _ => xs.length - (intOf i).toNat)
  case atStart => exact ⟨0, rfl, Nat.zero_le _, Ch.refl _ _⟩
  case round =>
    obtain ⟨ii, rfl, hi, hch⟩ := hrel
    by_cases hlt : ii < xs.length
    · have hlt' : (ii : Int) < (xs.length : Int) := by omega
      have hi0 : (0 : Int) ≤ (ii : Int) := by omega
      obtain ⟨b1, off1, rfl, hc1, hc2⟩ := (ha.keep hch (fun _ _ => id)) ii hlt
      obtain ⟨b2, off2, rfl, hc3, hc4⟩ := (hb.keep hch (fun _ _ => id)) ii hlt
      generalize ky xs ii = kk at hc1 hc3
      generalize vl xs ii = vv at hc2 hc4
      have hca := Ch.alloc (fun _ => False) wr (.cells #[.string kk, .int .i64 vv] 55)
      have d3 := hca.cell hc3 id
      have d4 := hca.cell hc4 id
      have hcd : ∀ n, Ch (fun _ => False) w ((wr.alloc (.cells #[.string kk, .int .i64 vv] 55)).drewN n) := fun n => (hch.tr hca).tr (Ch.drewN _ _ n)
      clear hca hch
      go_wp2_with fail
      go_quiet (fail)
      go_wp2
      go_roundw
      case rel => exact ⟨ii + 1, by go_num, by omega, hcd _⟩
      case measure => simp [intOf]; omega
    · have hlt' : (xs.length : Int) ≤ (ii : Int) := by omega
      go_wp2
      go_ret
      exact ⟨rfl, hch⟩
end Go.Proofs.Ytlgamaldngkdnaa
