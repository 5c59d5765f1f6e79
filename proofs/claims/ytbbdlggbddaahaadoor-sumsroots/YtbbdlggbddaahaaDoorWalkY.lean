/- Walk of the document's Roots. -/
import Derived.Test.YtbbdlggbddaahaaDoorWalkX
namespace Go.Proofs.YtbbdlggbddaahaaDoor
open Go.RowKit

theorem rootx_up (pw p b x : Nat) (h : aboveN (x ||| 2 ^ b) pw p = true) : rootx pw p (b + 1) x = rootx pw p b x := by rw [rootx, if_pos h]
theorem rootx_no (pw p b x : Nat) (h : aboveN (x ||| 2 ^ b) pw p = false) : rootx pw p (b + 1) x = rootx pw p b (x ||| 2 ^ b) := by rw [rootx, if_neg (by rw [h]; simp)]
theorem q_shl (s : Nat) (h : s ≤ 36) : IntKind.u64.wrap ((1 : Int) * 2 ^ s) = q (2 ^ s) := by
  have h2 : 2 ^ s ≤ 2 ^ 36 := Nat.pow_le_pow_right (by decide) h
  unfold q
  rw [IntKind.wrap_u64, Int.one_mul, show ((2 : Int) ^ s) = ((2 ^ s : Nat) : Int) by simp]
  generalize 2 ^ s = y at h2
  omega
theorem q_shl' (s : Nat) (h : s ≤ 36) : IntKind.u64.wrap ((2 : Int) ^ s) = q (2 ^ s) := by
  rw [← q_shl s h, Int.one_mul]
theorem q_or (a b : Nat) (ha : a < 2 ^ 64) (hb : b < 2 ^ 64) : bits .or .u64 (q a) (q b) = q (a ||| b) := by
  unfold q; exact u64_or_nat _ _ ha hb
theorem q_32 (a : Nat) : IntKind.u32.wrap ((q a).tmod (4294967296 : Int)) = u (BitVec.ofNat 32 (a % 4294967296)) := by
  unfold q u; rw [IntKind.wrap_u32', Int.tmod_eq_emod_of_nonneg (by omega), BitVec.toNat_ofNat]; omega
/-- The roots' words of the list's primes. -/
def rl (pw : Nat) (ps : List Nat) : List (BitVec 32) := ps.map (fun p => BitVec.ofNat 32 (root pw p))

theorem _root_.Go.World.ownsRow.kept_kp {B base : Nat} {w w' : World} {e : TypeId} {size : Nat} {v : Value} {n : Nat} {xs : List Value} (h : w.ownsRow base e size v n xs) (hk : Kp w.heap.size w w') (_ : B ≤ w.heap.size) : w'.ownsRow base e size v n xs := by
  obtain ⟨h1, h2⟩ := h
  refine ⟨h1, ?_⟩
  rcases h2 with h2 | ⟨g, cap, cur, hv, hg, hh, r⟩
  · exact Or.inl h2
  · refine Or.inr ⟨g, cap, cur, hv, hg, ?_, r⟩
    rw [hk.block g (by rcases Nat.lt_or_ge g w.heap.size with h | h; exact h; rw [Array.getElem?_eq_none h] at hh; cases hh)]
    exact hh
set_option maxRecDepth 100000 in
set_option maxHeartbeats 4000000 in
theorem roots_any (n pw : Nat) (hn1 : 1 ≤ n) (hn : n ≤ 64) (hpw : 1 ≤ pw ∧ pw ≤ 3) (ps : List Nat) (hps : primesF 400 [] 2 n = ps) (hpl : ps.length = n) (w : World) :
    Calls Tryd.prog 12 #[.int .i64 (n : Int), .int .i64 (pw : Int)] w fun e w' => ∃ g cap, e = .returned (.slice (some ⟨g, 0, none⟩) n cap) ∧ w.heap.size ≤ g ∧ WC w' g (rl pw ps) ∧ Kp w.heap.size w w' := by
  have HP := Lib.hid hpl
  have HPW := Lib.hid hpw
  have hpr := fun w => primes_any n hn ps hps hpl w
  clear hps hpl hpw
  go_enter Tryd.func12, Tryd.ntmps12
  go_wp2_with fail
  refine (hpr w).mono ?_
  clear hpr
  rintro e w1 ⟨v, rfl, hown0, hk1⟩
  obtain ⟨g, cap, rfl, hg, hq0⟩ := QC.of_own hown0 (by rw [HP.out]; omega)
  rw [HP.out]
  clear hown0
  have z1 := hq0.lt
  obtain ⟨B, hB⟩ : ∃ B, B = w1.heap.size := ⟨_, rfl⟩
  rw [← hB] at z1
  have zB : B ≤ w1.heap.size := by omega
  have zw : w.heap.size ≤ B := by have := hk1.size; omega
  clear hB
  go_wp2_with fail
  go_loopw [5, 7] (fun v i wr => ∃ (ii : Nat), i = .int .i64 (ii : Int) ∧ ii ≤ n ∧ wr.ownsRow B 28 1 v (rl pw (ps.take ii)).length ((rl pw (ps.take ii)).map wv) ∧ QC wr g ps ∧ Kp w.heap.size w wr ∧ B ≤ wr.heap.size) (fun _ i _ => n - (intOf i).toNat)
  case atStart => exact ⟨0, rfl, Nat.zero_le _, World.ownsRow_nil _ _ _ _, hq0, hk1, zB⟩
  case round =>
    clear hq0 hk1 zB
    obtain ⟨ii, rfl, hi, hown, hq, hkp, zB⟩ := hrel
    by_cases hlt : ii < n
    · have hlt' : (ii : Int) < (n : Int) := by omega
      have hi0 : (0 : Int) ≤ (ii : Int) := by omega
      go_wp2_with fail
      go_loopw [8, 9] (fun x b w3 => ∃ (bb xx : Nat), x = .int .u64 (q xx) ∧ b = .int .i64 ((bb : Int) - 1) ∧ bb ≤ 37 ∧ Hid (xx < 2 ^ 37 ∧ rootx pw (ps.getD ii 0) bb xx = rootx pw (ps.getD ii 0) 37 0) ∧ w3.ownsRow B 28 1 u5 (rl pw (ps.take ii)).length ((rl pw (ps.take ii)).map wv) ∧ QC w3 g ps ∧ Kp w.heap.size w w3 ∧ B ≤ w3.heap.size) (fun _ b _ => (intOf b + 1).toNat)
      case atStart => exact ⟨37, 0, rfl, rfl, Nat.le_refl _, Lib.hid ⟨by decide, rfl⟩, hown, hq, hkp, zB⟩
      case round =>
        clear hown hq hkp zB
        obtain ⟨bb, xx, rfl, rfl, hb, hX, hown, hq, hkp, zB⟩ := hrel
        cases bb with
        | succ s =>
          have hs : ((s + 1 : Nat) : Int) - 1 = (s : Int) := by omega
          rw [hs]
          clear hs
          have hs0 : (0 : Int) ≤ (s : Int) := by omega
          have hs36 : (s : Int) ≤ 36 := by omega
          have hs36' : s ≤ 36 := by omega
          have f1 := q_shl s hs36'
          have f2 := q_shl' s hs36'
          have h2s : 2 ^ s ≤ 2 ^ 36 := Nat.pow_le_pow_right (by decide) hs36'
          have f3 := q_or xx (2 ^ s) (by have := hX.out.1; omega) (by omega)
          have hc := hq.cell ii (by rw [HP.out]; exact hlt)
          obtain ⟨p, hp⟩ : ∃ p, ps.getD ii 0 = p := ⟨_, rfl⟩
          rw [hp] at hc
          have hX' := hX.out
          rw [hp] at hX'
          have hyl : xx ||| 2 ^ s < 2 ^ 37 := Nat.or_lt_two_pow hX'.1 (by omega)
          have HUP := fun h => rootx_up pw p s xx h
          have HNO := fun h => rootx_no pw p s xx h
          generalize xx ||| 2 ^ s = yy at f3 hyl HUP HNO
          have HH := Lib.hid (And.intro hyl (And.intro HUP (And.intro HNO (And.intro hX' hp))))
          clear hyl HUP HNO hX' hX hp h2s
          have hsr : IntKind.i64.wrap ((s : Int) - 1) = (s : Int) - 1 := IntWalk.i64_in _ (by omega)
          go_wp2_with fail
          refine (above_any yy pw p HPW.out wr).mono ?_
          rintro e w4 ⟨rfl, hk4⟩
          have hown4 := hown.kept_kp hk4 zB
          have hq4 := hq.kp hk4 hq.lt
          have hkp4 := hkp.trans (hk4.mono (by omega))
          have zB4 : B ≤ w4.heap.size := by have := hk4.size; omega
          clear hown hq hkp zB hk4 hc f1 f2 f3
          cases hab : aboveN yy pw p with
          | true =>
            have HX2 := Lib.hid ((HH.out.2.1 hab).symm.trans HH.out.2.2.2.1.2)
            go_wp2
            go_roundw
            case rel => exact ⟨s, xx, rfl, by go_num, by omega, Lib.hid ⟨HH.out.2.2.2.1.1, by rw [HH.out.2.2.2.2]; exact HX2.out⟩, hown4, hq4, hkp4, zB4⟩
            case measure => simp [intOf]
          | false =>
            have HX2 := Lib.hid ((HH.out.2.2.1 hab).symm.trans HH.out.2.2.2.1.2)
            go_wp2
            go_roundw
            case rel => exact ⟨s, yy, rfl, by go_num, by omega, Lib.hid ⟨HH.out.1, by rw [HH.out.2.2.2.2]; exact HX2.out⟩, hown4, hq4, hkp4, zB4⟩
            case measure => simp [intOf]
        | zero =>
          have hs : ((0 : Nat) : Int) - 1 < 0 := by omega
          have hroot : BitVec.ofNat 32 (xx % 4294967296) = BitVec.ofNat 32 (root pw (ps.getD ii 0)) := by
            unfold root; rw [← hX.out.2]; rfl
          have HR := Lib.hid hroot
          clear hroot hX
          have f1 := q_32 xx
          generalize BitVec.ofNat 32 (xx % 4294967296) = rw0 at f1 HR
          obtain ⟨ls, hls⟩ : ∃ ls, rl pw (ps.take ii) = ls := ⟨_, rfl⟩
          rw [hls] at hown
          have hll : ls.length ≤ 64 := by
            rw [← hls]; unfold rl; rw [List.length_map, List.length_take]; omega
          have HLS := Lib.hid hls
          clear hls
          go_wp2_with (at_builtin; refine wpList_w rfl (.tmp 35) (.tmp 39) rfl B u5 ls rfl (hown.alloc _) _ rw0 rfl (heap_alloc_new _ _) (by omega) ?_ ?_; (simp; omega); intro v' w3 hown3 hgr3)
          have hne : ∀ k, u5.ownBlock = some k → B ≤ k := fun k hk => (hown.lt k hk).1
          have hk3 : Kp w.heap.size w w3 := (hkp.alloc hkp.size _).trans (Below.kp ((Below.refl _ _).grown hgr3 (by have := hkp.size; simp; omega) (fun k hk => by have := hne k hk; omega)))
          have hq3 : QC w3 g ps := (hq.alloc (.cells #[.int .u32 (u rw0)] 28)).of_block hgr3.size (hgr3.block g (by have := hq.lt; simp; omega) (fun he => by have := hne g he.symm; omega))
          have zB3 : B ≤ w3.heap.size := by have := hgr3.size; simp at this; omega
          clear hown hgr3 hkp hq zB hne
          go_wp2
          go_roundw
          case rel =>
            have e : rl pw (ps.take (ii + 1)) = ls ++ [rw0] := by
              rw [List.take_add_one, List.getElem?_eq_getElem (by rw [HP.out]; exact hlt)]
              unfold rl
              rw [List.map_append, ← HLS.out, HR.out]
              simp [rl, List.getD_eq_getElem?_getD, List.getElem?_eq_getElem (show ii < ps.length by rw [HP.out]; exact hlt)]
            refine ⟨ii + 1, by go_num, by omega, ?_, hq3, hk3, zB3⟩
            rw [e]
            exact hown3
          case measure => simp [intOf]; omega
    · have hlt' : (n : Int) ≤ (ii : Int) := by omega
      rw [List.take_of_length_le (by rw [HP.out]; omega)] at hown
      have hln : (rl pw ps).length = n := by unfold rl; rw [List.length_map, HP.out]
      obtain ⟨g5, c5, hv5, hg5, hw5⟩ := WC.of_own hown (by rw [hln]; omega)
      rw [hln] at hv5
      subst hv5
      clear hown hln
      go_wp2
      go_ret
      exact ⟨g5, c5, rfl, by omega, hw5, hkp⟩
end Go.Proofs.YtbbdlggbddaahaaDoor
