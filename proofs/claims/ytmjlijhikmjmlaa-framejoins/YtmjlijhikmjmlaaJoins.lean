/- The walk of FrameJoins. -/
import Derived.Test.YtmjlijhikmjmlaaScans
import Derived.Laws.OwnMore
namespace Go.Proofs.Ytmjlijhikmjmlaa
open Go Go.RowKit
attribute [-go_sem] Builtin.append_

/-- append of all texts of a list. -/
theorem append_run (w : World) (base : Nat) (v : Value) (xs : List (List UInt8)) (hown : OwT w base v xs) (ad : Option Addr) (c : Nat) (ys : List (List UInt8)) (hr : RdT w ad ys) (hn : ad = none → c = 0)
    (hlen : xs.length + ys.length ≤ 100000000) (hbase : base ≤ w.heap.size) :
    ∃ a' c' w', (Builtin.append_ #[26, 26] 26 #[v, .slice ad ys.length c]).run Try.prog w = .ok (.slice a' (xs.length + ys.length) c') w' ∧ OwT w' base (.slice a' (xs.length + ys.length) c') (xs ++ ys) ∧ RdT w' a' (xs ++ ys) ∧ Ch (fun j => v.ownBlock = some j) w w' := by
  obtain ⟨i0, hi, hz0, hz1, hz2⟩ := info_parts Try.info9
  cases ad with
  | none =>
    have hy : ys = [] := by
      cases ys with
      | nil => rfl
      | cons y l => obtain ⟨_, _, he, _⟩ := hr 0 (by simp); cases he
    subst hy
    rw [hn rfl]
    obtain ⟨a', c', rfl, h1, _⟩ := hown.rd
    refine ⟨a', c', w, run_append_owned_none w base 26 26 9 i0 1 Try.underlying26 hi _ xs.length (xs.map sv) hown, ?_, ?_, Ch.refl _ _⟩
    · rw [List.append_nil]; exact hown
    · rw [List.append_nil]; exact h1
  | some ad =>
    obtain ⟨v', w', h1, h2, h3, _⟩ := run_append_own (P := Try.prog) w base 26 26 9 i0 _ 1 16 Try.underlying26 hi hz0 hz1 hz2 rfl (by decide) v xs.length (xs.map sv) hown ad ys.length c (ys.map sv) (by simp)
      (fun j z hj => by
        have hjl : j < ys.length := by
          have := (List.getElem?_eq_some_iff.1 hj).1
          simpa using this
        obtain ⟨b, off, he, hcell⟩ := hr j hjl
        cases he
        rw [Addr.add_lit, hcell, ← hj, List.getElem?_map, List.getElem?_eq_getElem hjl, getD_at hjl]
        rfl)
      (fun z hz => by
        obtain ⟨y, _, rfl⟩ := List.mem_map.1 hz
        rfl) (by unfold maxLen; omega) (by omega) hbase
    have ho : OwT w' base v' (xs ++ ys) := by
      unfold OwT
      rw [List.length_append, List.map_append]
      exact h2
    obtain ⟨a', c', hv, h4, _⟩ := ho.rd
    rw [List.length_append] at hv
    subst hv
    exact ⟨a', c', w', h1, ho, h4, Ch.of_grown h3 fun k hk => hk⟩

/-- Both lists, one behind the other. -/
theorem both_run (w : World) (a b : Option Addr) (ca cb : Nat) (xs ys : List (List UInt8)) (ha : RdT w a xs) (hb : RdT w b ys) (na : a = none → ca = 0) (nb : b = none → cb = 0) (hx : xs.length ≤ 100000) (hy : ys.length ≤ 100000) :
    ∃ a1 c1 w1 a2 c2 w2, (Builtin.append_ #[26, 26] 26 #[.slice (some ⟨w.heap.size, 0, none⟩) 0 0, .slice a xs.length ca]).run Try.prog (w.alloc (.cells #[] 9)) = .ok (.slice a1 xs.length c1) w1 ∧
      (Builtin.append_ #[26, 26] 26 #[.slice a1 xs.length c1, .slice b ys.length cb]).run Try.prog w1 = .ok (.slice a2 (xs ++ ys).length c2) w2 ∧ RdT w2 a2 (xs ++ ys) ∧ Below w.heap.size w w2 := by
  have hB0 : Below w.heap.size w (w.alloc (.cells #[] 9)) := (Below.refl _ _).alloc (Nat.le_refl _) _
  have hz0 := hB0.size
  obtain ⟨a1, c1, w1, h1, h2, _, h3⟩ := append_run (w.alloc (.cells #[] 9)) w.heap.size _ [] (OwT.empty w w.heap.size (Nat.le_refl _)) a ca xs (ha.new hB0) na (by simp; omega) (by simp)
  rw [List.nil_append] at h2
  rw [List.length_nil, Nat.zero_add] at h1 h2
  have hC1 : Ch (fun j => w.heap.size ≤ j) (w.alloc (.cells #[] 9)) w1 := h3.mono fun j _ hj => by
    have : w.heap.size = j := Option.some.inj hj
    omega
  have hB1 : Below w.heap.size w w1 := hB0.trans (hC1.below hz0 fun k hk hge => by omega)
  obtain ⟨a2, c2, w2, h4, h5, h6, h7⟩ := append_run w1 w.heap.size _ xs h2 b cb ys (hb.new hB1) nb (by omega) hB1.size
  have hC2 : Ch (fun j => w.heap.size ≤ j) w1 w2 := h7.mono fun j _ hj => (h2.own j hj).1
  exact ⟨a1, c1, w1, a2, c2, w2, h1, by rw [List.length_append]; exact h4, h6, hB1.trans (hC2.below hB1.size fun k hk hge => by omega)⟩

theorem scan_rd (s : List UInt8) (hs : s.length ≤ 100000) (w : World) : Calls Try.prog 11 #[.string (txt s)] w fun e w' => ∃ a c xs, e = .returned (.tuple #[.slice a xs.length c, .int .i64 ((flat xs).length : Int)]) ∧ RdT w' a xs ∧ (a = none → c = 0) ∧ Hid (Scanned s xs) ∧ Below w.heap.size w w' := by
  refine (scan_any s hs w).mono ?_
  rintro e w' ⟨v, xs, rfl, ho, hsc, hb⟩
  obtain ⟨a, c, rfl, hr, hn, _⟩ := ho.rd
  exact ⟨a, c, xs, rfl, hr, hn, Lib.hid hsc, hb⟩
theorem Scanned.whole {a b : List UInt8} {xs ys : List (List UInt8)} (h : Scanned a xs) (k : Scanned b ys) (hl : (flat xs).length = a.length) : Scanned (a ++ b) (xs ++ ys) := by
  obtain ⟨r, e, _, hx⟩ := h
  obtain ⟨r', e', hn, hy⟩ := k
  have hr : r = [] := by
    have := congrArg List.length e
    rw [List.length_append] at this
    exact List.length_eq_zero_iff.1 (by omega)
  refine ⟨r', ?_, hn, fun x hx' => ?_⟩
  · rw [e, hr, List.append_nil, e', flat_append, List.append_assoc]
  · rcases List.mem_append.1 hx' with h | h
    · exact hx x h
    · exact hy x h

set_option maxRecDepth 100000 in
set_option maxHeartbeats 4000000 in
theorem frameJoins_any (a b : List UInt8) (ha : a.length ≤ 2500) (hb : b.length ≤ 2500) (w : World) : Calls Try.prog 7 #[.string (txt a), .string (txt b)] w fun e w' => e = .returned (.bool true) ∧ Below w.heap.size w w' := by
  have hza := txt_size a
  have hzb := txt_size b
  have ha' : (a.length : Int) ≤ 2500 := by omega
  have hb' : (b.length : Int) ≤ 2500 := by omega
  have hda : decide ((2500 : Int) < (a.length : Int)) = false := decide_eq_false (by omega)
  have hdb : decide ((2500 : Int) < (b.length : Int)) = false := decide_eq_false (by omega)
  have A := Lib.hid awake_any
  have P1 := Lib.hid (scan_rd a (by omega))
  have P2 := Lib.hid (scan_rd b (by omega))
  have P3 := Lib.hid (scan_rd (a ++ b) (by rw [List.length_append]; omega))
  have hc := cat a b (by omega)
  have HL := Lib.hid (And.intro ha hb)
  clear ha hb
  generalize hG : txt (a ++ b) = G at P3 hc
  have HG := Lib.hid hG
  clear hG
  go_enter Try.func7, Try.ntmps7
  go_wp2_with fail
  refine (A.out w).mono ?_
  rintro e w1 ⟨rfl, hb1⟩
  go_wp2_with fail
  refine (P1.out w1).mono ?_
  rintro e w2 ⟨a1, c1, xs, rfl, r1, n1, s1, hb2⟩
  go_wp2_with fail
  refine (P2.out w2).mono ?_
  rintro e w3 ⟨a2, c2, ys, rfl, r2, n2, s2, hb3⟩
  have r1' := r1.new hb3
  have hBa : Below w.heap.size w w3 := (hb1.trans (hb2.mono hb1.size)).trans (hb3.mono (Nat.le_trans hb1.size hb2.size))
  have f1 := s1.out.few (by have := HL.out; omega)
  have f2 := s2.out.few (by have := HL.out; omega)
  have hle := s1.out.length
  have g1 : ((flat xs).length : Int) ≤ 100000 := by omega
  have g2 : ((flat ys).length : Int) ≤ 100000 := by omega
  by_cases hn : (flat xs).length = a.length
  · have hW := s1.out.whole s2.out hn
    have hlen : (flat (xs ++ ys)).length = (flat xs).length + (flat ys).length := by rw [flat_append, List.length_append]
    have hne : (((flat xs).length : Int) != (a.length : Int)) = false := by rw [hn]; simp
    have HW := Lib.hid hW
    have HF := Lib.hid (And.intro f1 f2)
    have HN := Lib.hid hlen
    clear hW hn hlen f1 f2 hle
    generalize (flat xs).length = N at hne g1 HN HF
    generalize (flat ys).length = M at g2 HN HF
    go_wp2_with fail
    refine (P3.out w3).mono ?_
    rintro e w4 ⟨a3, c3, zs, rfl, r3, n3, s3, hb4⟩
    obtain rfl : zs = xs ++ ys := s3.out.unique HW.out
    obtain ⟨a4, c4, w5, a5, c5, w6, u1, u2, r6, hb6⟩ := both_run w4 a1 a2 c1 c2 xs ys (r1'.new hb4) (r2.new hb4) n1 n2 (by have := HF.out; omega) (by have := HF.out; omega)
    have S := Lib.hid (same_any w6 a3 a5 c3 c5 (xs ++ ys) (xs ++ ys) (r3.new hb6) r6 (by have := HF.out; rw [List.length_append]; omega))
    have HB : Hid (Below w.heap.size w w6) := Lib.hid ((hBa.trans (hb4.mono hBa.size)).trans (hb6.mono (Nat.le_trans hBa.size hb4.size)))
    rw [HN.out]
    obtain ⟨T, hT⟩ : ∃ T : Nat, N + M = T := ⟨_, rfl⟩
    have hat : ((T : Int) == (N : Int) + (M : Int)) = true := by rw [← hT]; simp
    rw [hT]
    generalize (xs ++ ys).length = L at u2 S
    clear hT r1 r1' r2 r3 r6 n1 n2 n3 s1 s2 s3 hb1 hb2 hb3 hb4 hb6 hBa HN HW
    go_wp2_with (go_at_call 13; (with_reducible refine S.out.mono ?_); rintro e w7 ⟨rfl, rfl⟩)
    go_ret
    exact ⟨by simp, HB.out⟩
  · have hlt : ((flat xs).length : Int) < (a.length : Int) := by omega
    have hne : (((flat xs).length : Int) != (a.length : Int)) = true := by simp; omega
    clear hn hle
    generalize (flat xs).length = N at hne g1 hlt f1
    go_wp2
    go_ret
    exact ⟨rfl, hBa⟩
set_option maxRecDepth 100000 in
set_option maxHeartbeats 1000000 in
theorem frameJoins_long (a b : ByteArray) (h : 2500 < a.size ∨ 2500 < b.size) (w : World) : Calls Try.prog 7 #[.string a, .string b] w fun e w' => e = .returned (.bool true) ∧ Below w.heap.size w w' := by
  have A := Lib.hid awake_any
  by_cases h1 : 2500 < a.size
  · have h1' : decide ((2500 : Int) < (a.size : Int)) = true := decide_eq_true (by omega)
    clear h h1
    go_enter Try.func7, Try.ntmps7
    go_wp2_with (go_at_call 8; (with_reducible refine (A.out _).mono ?_); rintro e w1 ⟨rfl, hb1⟩)
    go_ret
    exact ⟨rfl, hb1⟩
  · have h2 : decide ((2500 : Int) < (b.size : Int)) = true := decide_eq_true (by omega)
    have h1' : decide ((2500 : Int) < (a.size : Int)) = false := decide_eq_false (by omega)
    clear h h1
    go_enter Try.func7, Try.ntmps7
    go_wp2_with (go_at_call 8; (with_reducible refine (A.out _).mono ?_); rintro e w1 ⟨rfl, hb1⟩)
    go_ret
    exact ⟨rfl, hb1⟩
end Go.Proofs.Ytmjlijhikmjmlaa
