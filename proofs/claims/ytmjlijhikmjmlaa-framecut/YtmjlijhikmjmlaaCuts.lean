/- The walk of FrameCut. -/
import Derived.Test.YtmjlijhikmjmlaaCut
namespace Go.Proofs.Ytmjlijhikmjmlaa
open Go Go.RowKit
attribute [-go_sem] Builtin.append_

/-- What the first loop has made of the first i payloads. -/
structure CI (w wr : World) (xs : List (List UInt8)) (v : Value) (i n : Nat) : Prop where
  own : OwN wr w.heap.size v (endsL xs i)
  ch : Below w.heap.size w wr
  len : upto xs i = 12 * i + n
  few : n ≤ 5000
  each : ∀ x ∈ xs.take i, x.length ≤ 5000
theorem CI.app {w wr w1 w2 : World} {xs : List (List UInt8)} {v v2 : Value} {i n : Nat} (h : CI w wr xs v i n) (hi : i < xs.length) (hn : n + (xs.getD i []).length ≤ 5000) (h1 : Ch (fun _ => False) wr w1)
    (ho : OwN w2 w.heap.size v2 (endsL xs i ++ [upto xs (i + 1)])) (hc : Ch (fun j => v.ownBlock = some j) w1 w2) : CI w w2 xs v2 (i + 1) (n + (xs.getD i []).length) := by
  have hC : Ch (fun j => v.ownBlock = some j) wr w2 := (Ch.mono h1 fun _ _ e => False.elim e).tr hc
  have hge : ∀ j, v.ownBlock = some j → w.heap.size ≤ j := fun j hj => (h.own.own j hj).1
  refine ⟨by rw [endsL_succ]; exact ho, h.ch.trans (hC.below h.ch.size fun k hk e => by have := hge _ e; omega), ?_, hn, fun x hx => ?_⟩
  · rw [upto_succ xs i hi, h.len]; omega
  · rw [take_at hi] at hx
    rcases List.mem_append.1 hx with hx | hx
    · exact h.each x hx
    · rw [List.mem_singleton.1 hx]; omega

set_option maxRecDepth 100000 in
set_option maxHeartbeats 4000000 in
theorem frameCut_any (a : Option Addr) (cap : Nat) (xs : List (List UInt8)) (cut : Int) (hx : xs.length ≤ 50) (hcap : xs.length ≤ cap) (hnil : a = none → cap = 0) (w : World) (hr : RdT w a xs) (hsz : ∀ x ∈ xs, x.length ≤ 140737488355328) :
    Calls Try.prog 5 #[.slice a xs.length cap, .int .i64 cut] w fun e w' => e = .returned (.bool true) ∧ Below w.heap.size w w' := by
  have hx' : (xs.length : Int) ≤ 50 := by omega
  have A := Lib.hid awake_any
  have HR := Lib.hid hr
  have HZ := Lib.hid hsz
  have HA := Lib.hid (And.intro hcap hnil)
  clear hr hsz hcap hnil
  go_enter Try.func5, Try.ntmps5
  go_wp2_with fail
  refine (A.out w).mono ?_
  rintro e w1 ⟨rfl, hb1⟩
  have H0 : Hid (CI w (w1.alloc (.cells #[.int .i64 0] 3)) xs (.slice (some ⟨w1.heap.size, 0, none⟩) 1 1) 0 0) := Lib.hid
    ⟨by rw [show endsL xs 0 = [0] from by unfold endsL; simp [upto_zero]]; exact OwN.first _ _ hb1.size, hb1.trans ((Below.refl _ _).alloc hb1.size _), by rw [upto_zero], by omega, fun x hx => by simp at hx⟩
  clear hb1
  go_wp2
  go_loopw [5, 6, 7, 9, 10, 11, 23] (fun s n v _ _ _ i wr => ∃ (ii nn : Nat), i = .int .i64 (ii : Int) ∧ n = .int .i64 (nn : Int) ∧ s = .string (txt (flat (xs.take ii))) ∧ ii ≤ xs.length ∧ Hid (CI w wr xs v ii nn)) (fun _ _ _ _ _ _ i _ => xs.length - (intOf i).toNat)
  case atStart => exact ⟨0, 0, rfl, rfl, rfl, Nat.zero_le _, H0⟩
  case round =>
    clear H0
    obtain ⟨ii, nn, rfl, rfl, rfl, hi, HI⟩ := hrel
    obtain ⟨oa, oc, hv, hrd⟩ := HI.out.own.rd
    subst hv
    rw [endsL_length] at HI ⊢
    by_cases hlt : ii < xs.length
    · have hlt' : (ii : Int) < (xs.length : Int) := by omega
      have hi0 : (0 : Int) ≤ (ii : Int) := by omega
      obtain ⟨b, off, rfl, k0⟩ := HR.out.new HI.out.ch ii hlt
      have hzp := txt_size (xs.getD ii [])
      have hmem : xs.getD ii [] ∈ xs := by rw [getD_at hlt]; exact List.getElem_mem hlt
      have hpm := HZ.out _ hmem
      have hnn := HI.out.few
      have hnn' : (nn : Int) ≤ 5000 := by omega
      have hnn0 : (0 : Int) ≤ (nn : Int) := by omega
      have hus := upto_succ xs ii hlt
      have HAp := Lib.hid (fun h w1 w2 v2 => @CI.app w wr w1 w2 xs _ v2 ii nn HI.out hlt h)
      have hcat := fun h => cat (flat (xs.take ii)) (frameL (xs.getD ii [])) h
      rw [← flat_snoc, ← take_at hlt] at hcat
      have hU : (txt (flat (xs.take (ii + 1)))).size = upto xs (ii + 1) := txt_size _
      have hlu : upto xs ii = 12 * ii + nn := HI.out.len
      have hfl : (flat (xs.take ii)).length = upto xs ii := rfl
      have P := fun h => Lib.hid (wrap_any (xs.getD ii []) h)
      have hfl2 := frameL_length (xs.getD ii [])
      generalize xs.getD ii [] = pn at k0 hzp hpm hus HAp hcat P hfl2
      have hpm' : (pn.length : Int) ≤ 281474976710656 := by omega
      clear hmem
      by_cases h5 : nn + pn.length ≤ 5000
      · have h5' : (nn : Int) + (pn.length : Int) ≤ 5000 := by omega
        have hc1 := hcat (by omega)
        have P1 := P (by omega)
        have HR2 := Lib.hid (HAp.out h5)
        generalize hS' : txt (flat (xs.take (ii + 1))) = S' at hc1 hU
        have HS' := Lib.hid hS'
        generalize txt (frameL pn) = F at hc1 P1
        generalize upto xs (ii + 1) = u1 at hU HR2 hus
        have HU : Hid (u1 ≤ 10000) := Lib.hid (by omega)
        have hu1 : (u1 : Int) ≤ 10000 := by omega
        have hcs := HI.out.ch.size
        clear hS' hcat P HAp hnn hpm h5 hus hlu hfl hfl2
        generalize txt (flat (xs.take ii)) = S at hc1 ⊢
        go_wp2_with (first
          | (go_at_call 9; (with_reducible refine (P1.out _).mono ?_); rintro e w2 ⟨rfl, hb2⟩
             have hs2 := hb2.size)
          | (at_builtin; refine wpList_num rfl (.tmp 43) (.tmp 46) rfl w.heap.size (.slice oa (ii + 1) oc) (endsL xs ii) rfl (HI.out.own.keep ((Ch.of_new (S := fun _ => False) hb2).tr (Ch.alloc _ _ _)) (fun _ _ => id)) w2.heap.size u1 rfl (nrow _ _ rfl _) (by rw [endsL_length]; omega) (by simp; omega) ?_; intro g3 w3 ho3 hc3))
        go_roundw
        case rel =>
          refine ⟨ii + 1, nn + pn.length, by go_num, by go_num, by rw [HS'.out], by omega, Lib.hid ?_⟩
          exact HR2.out _ _ _ ((Ch.of_new (S := fun _ => False) hb2).tr (Ch.alloc _ _ _)) ho3 hc3
        case measure => simp [intOf]; omega
      · have h5' : (5000 : Int) < (nn : Int) + (pn.length : Int) := by omega
        clear hcat P HAp hnn hpm h5 hus hlu hfl hfl2 hU
        generalize txt (flat (xs.take ii)) = S
        go_wp2
        go_ret
        exact ⟨rfl, HI.out.ch⟩
    · have hlt' : (xs.length : Int) ≤ (ii : Int) := by omega
      obtain rfl : ii = xs.length := by omega
      rw [List.take_length]
      have hz := txt_size (flat xs)
      have hfl : (flat xs).length = 12 * xs.length + nn := by rw [← upto_all]; exact HI.out.len
      have hnn := HI.out.few
      have hL : ((flat xs).length : Int) ≤ 10000 := by omega
      by_cases hc0 : cut < 0
      · have hd0 : decide (cut < 0) = true := decide_eq_true hc0
        clear hfl hnn hlt
        go_wp2
        go_ret
        exact ⟨rfl, HI.out.ch⟩
      have hd0 : decide (cut < 0) = false := decide_eq_false hc0
      obtain ⟨c, rfl⟩ : ∃ c : Nat, cut = (c : Int) := ⟨cut.toNat, by omega⟩
      by_cases hc1 : (flat xs).length < c
      · have hd1 : decide (((flat xs).length : Int) < (c : Int)) = true := decide_eq_true (by omega)
        have hd2 : decide ((flat xs).length < c) = true := decide_eq_true hc1
        clear hfl hnn hlt hc1
        go_wp2
        go_ret
        exact ⟨rfl, HI.out.ch⟩
      have hd1 : decide (((flat xs).length : Int) < (c : Int)) = false := decide_eq_false (by omega)
      have hd2 : decide ((flat xs).length < c) = false := decide_eq_false hc1
      have hcle : (c : Int) ≤ ((flat xs).length : Int) := by omega
      have hc00 : (0 : Int) ≤ (c : Int) := by omega
      have x1 := txt_take (flat xs) c
      have S := Lib.hid (scan_any ((flat xs).take c) (by rw [List.length_take]; omega))
      generalize txt ((flat xs).take c) = T at x1 S
      have HC := Lib.hid (And.intro hfl (And.intro hnn hc1))
      clear hfl hnn hlt hc1 hc0
      go_wp2_with fail
      refine (S.out _).mono ?_
      rintro e w2 ⟨v2, zs, rfl, ho2, hs2, hb2⟩
      obtain ⟨ga, gc, rfl, gr, -, -⟩ := ho2.rd
      have hB2 : Below w.heap.size w w2 := HI.out.ch.trans (hb2.mono HI.out.ch.size)
      have hrd2 : RdN w2 oa (endsL xs xs.length) := fun i hi => by
        obtain ⟨b, hb, hcell⟩ := hrd i hi
        exact ⟨b, hb, (Ch.of_new (S := fun _ => False) hb2).cell hcell id⟩
      have HG := Lib.hid (And.intro gr (And.intro hs2 (And.intro hB2 hrd2)))
      clear hrd hrd2 ho2 hs2 hb2 gr hB2
      have hN : ((flat zs).length : Int) ≤ 10000 := by
        have h1 := HG.out.2.1.length
        rw [List.length_take] at h1
        omega
      generalize hfz : (flat zs).length = fz at hN ⊢
      have HFZ := Lib.hid hfz
      clear hfz
      go_wp2
      go_loop [14] (fun k => ∃ kk : Nat, k = .int .i64 (kk : Int) ∧ kk ≤ xs.length ∧ Hid (upto xs kk ≤ c)) (fun k => xs.length - (intOf k).toNat)
      case atStart => exact ⟨0, rfl, Nat.zero_le _, Lib.hid (by rw [upto_zero]; omega)⟩
      case round =>
        obtain ⟨kk, rfl, hkk, HK⟩ := hrel
        have hk0 : (0 : Int) ≤ (kk : Int) := by omega
        have hkx : (kk : Int) ≤ 50 := by omega
        by_cases hA : kk < xs.length ∧ upto xs (kk + 1) ≤ c
        · obtain ⟨hlt, hle⟩ := hA
          obtain ⟨b, rfl, hcell⟩ := HG.out.2.2.2 (kk + 1) (by rw [endsL_length]; omega)
          rw [endsL_at xs xs.length (kk + 1) (by omega)] at hcell
          have HN : Hid (upto xs (kk + 1) ≤ c) := Lib.hid hle
          generalize upto xs (kk + 1) = u1 at hcell hle
          have q1 : decide ((kk : Int) < (xs.length : Int)) = true := decide_eq_true (by omega)
          have q2 : decide (kk < xs.length) = true := decide_eq_true hlt
          have q3 : decide ((u1 : Int) ≤ (c : Int)) = true := decide_eq_true (by omega)
          have q4 : decide (u1 ≤ c) = true := decide_eq_true hle
          have hidx : (kk : Int) + 1 < ((xs.length + 1 : Nat) : Int) := by omega
          clear hd0 hd1 hd2 x1 hz
          go_wp2
          go_round
          case rel => exact ⟨kk + 1, by go_num, by omega, HN⟩
          case measure => simp [intOf]; omega
        · have hsc : Scanned ((flat xs).take c) (xs.take kk) := Scanned.cut xs (fun x hx => by
            have := HI.out.each x (by rw [List.take_length]; exact hx)
            omega) c kk hkk HK.out (fun hlt => by
            have : ¬ upto xs (kk + 1) ≤ c := fun h => hA ⟨hlt, h⟩
            omega)
          obtain rfl : zs = xs.take kk := HG.out.2.1.unique hsc
          obtain ⟨b, rfl, hcell⟩ := HG.out.2.2.2 kk (by rw [endsL_length]; omega)
          rw [endsL_at xs xs.length kk hkk] at hcell
          have hfz : upto xs kk = fz := HFZ.out
          rw [hfz] at hcell
          have Z := Lib.hid (same_any w2 ga a gc cap (xs.take kk) (xs.take kk) HG.out.1 ((HR.out.new HG.out.2.2.1).take kk) (by rw [List.length_take]; omega))
          have hkl : (xs.take kk).length = kk := by rw [List.length_take]; omega
          rw [hkl] at Z ⊢
          have hkc : kk ≤ cap := Nat.le_trans hkk HA.out.1
          have hkc' : (kk : Int) ≤ (cap : Int) := by omega
          by_cases hlt : kk < xs.length
          · obtain ⟨b', hb', hcell'⟩ := HG.out.2.2.2 (kk + 1) (by rw [endsL_length]; omega)
            cases hb'
            rw [endsL_at xs xs.length (kk + 1) (by omega)] at hcell'
            have hle : ¬ upto xs (kk + 1) ≤ c := fun h => hA ⟨hlt, h⟩
            generalize upto xs (kk + 1) = u1 at hcell' hle
            have q1 : decide ((kk : Int) < (xs.length : Int)) = true := decide_eq_true (by omega)
            have q2 : decide (kk < xs.length) = true := decide_eq_true hlt
            have q3 : decide ((u1 : Int) ≤ (c : Int)) = false := decide_eq_false (by omega)
            have q4 : decide (u1 ≤ c) = false := decide_eq_false hle
            have hidx : (kk : Int) + 1 < ((xs.length + 1 : Nat) : Int) := by omega
            clear hd0 hd1 hd2 x1 hz hA hfz hsc hle
            go_wp2_with (go_at_call 13; (with_reducible refine Z.out.mono ?_); rintro e w3 ⟨rfl, rfl⟩)
            go_ret
            exact ⟨by simp, HG.out.2.2.1⟩
          · have q1 : decide ((kk : Int) < (xs.length : Int)) = false := decide_eq_false (by omega)
            have q2 : decide (kk < xs.length) = false := decide_eq_false hlt
            have hidx : (kk : Int) < ((xs.length + 1 : Nat) : Int) := by omega
            clear hd0 hd1 hd2 x1 hz hA hfz hsc
            go_wp2_with (go_at_call 13; (with_reducible refine Z.out.mono ?_); rintro e w3 ⟨rfl, rfl⟩)
            go_ret
            exact ⟨by simp, HG.out.2.2.1⟩
set_option maxRecDepth 100000 in
set_option maxHeartbeats 1000000 in
theorem frameCut_long (a : Option Addr) (cap n : Nat) (cut : Int) (hn : 50 < n) (hm : n ≤ maxLen) (w : World) :
    Calls Try.prog 5 #[.slice a n cap, .int .i64 cut] w fun e w' => e = .returned (.bool true) ∧ Below w.heap.size w w' := by
  unfold maxLen at hm
  have hn' : (50 : Int) < (n : Int) := by omega
  have A := Lib.hid awake_any
  go_enter Try.func5, Try.ntmps5
  go_wp2_with (go_at_call 8; (with_reducible refine (A.out _).mono ?_); rintro e w1 ⟨rfl, hb1⟩)
  go_ret
  exact ⟨rfl, hb1⟩
end Go.Proofs.Ytmjlijhikmjmlaa
