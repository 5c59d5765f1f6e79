/- The walks of both Cuts; awake. -/
import Derived.Test.YtfjlkphpeneahaaDoorEnds
namespace Go.Proofs.YtfjlkphpeneahaaDoor
open Go Go.RowKit
attribute [-go_sem] Builtin.append_

/-- What the rounds have made of the first i items. -/
structure PI (w wr : World) (xs : List (List UInt8)) (v : Value) (ps : List Nat) (n i : Nat) : Prop where
  own : OwN wr w.heap.size v ps
  below : Below w.heap.size w wr
  eq : ps ++ cutG E n (xs.drop i) = cutG E 0 xs
  few : n ≤ 15
  len : ps.length ≤ i
theorem cut_step {xs : List (List UInt8)} {i n : Nat} (h : i < xs.length) {ps : List Nat} (he : ps ++ cutG E n (xs.drop i) = cutG E 0 xs) :
    (endB (n + 1) xs[i] = true → ps ++ [n + 1] ++ cutG E 0 (xs.drop (i + 1)) = cutG E 0 xs) ∧ (endB (n + 1) xs[i] = false → ps ++ cutG E (n + 1) (xs.drop (i + 1)) = cutG E 0 xs ∧ n + 1 ≤ 15) := by
  rw [List.drop_eq_getElem_cons h, cutG_cons] at he
  unfold endB
  refine ⟨fun hb => ?_, fun hb => ?_⟩
  · rw [if_pos (of_decide_eq_true hb)] at he
    rw [← he, List.append_assoc]; rfl
  · have hb' := of_decide_eq_false hb
    rw [if_neg hb'] at he
    exact ⟨he, by omega⟩
theorem PI.app {w wr w1 w3 : World} {xs : List (List UInt8)} {v v3 : Value} {ps : List Nat} {n i m : Nat} {o : Obj} (h : PI w wr xs v ps n i) (hb : Below wr.heap.size wr w1) (hc : Ch (fun j => v.ownBlock = some j) (w1.alloc o) w3) (ho : OwN w3 w.heap.size v3 (ps ++ [m])) : OwN w3 w.heap.size v3 (ps ++ [m]) ∧ Below w.heap.size w w3 := by
  have h1 : Below w.heap.size w (w1.alloc o) := (h.below.trans (hb.mono h.below.size)).alloc (Nat.le_trans h.below.size hb.size) _
  exact ⟨ho, h1.trans (hc.below h1.size fun k hk e => by have := (h.own.own k e).1; omega)⟩
set_option maxRecDepth 100000 in
set_option maxHeartbeats 4000000 in
theorem cut_any {w : World} (hK : S1.KR w) (a : Option Addr) (c : Nat) (xs : List (List UInt8)) (hR : RdT w a xs) (hl : xs.length ≤ 1000) (hx : ∀ x ∈ xs, x.length ≤ 100000) :
    Calls Tryd.prog 60 #[.slice a xs.length c] w fun e w' => ∃ v, e = .returned v ∧ OwN w' w.heap.size v (cutG E 0 xs) ∧ Below w.heap.size w w' := by
  have hl' : (xs.length : Int) ≤ 1000 := by omega
  have HR := Lib.hid (And.intro hR (And.intro hx hK))
  clear hR hx hK
  go_enter Tryd.func60, Tryd.ntmps60
  go_wp2
  go_loopw [3, 4, 6, 9] (fun v cn _ i wr => ∃ (ii n : Nat) (ps : List Nat), i = .int .i64 (ii : Int) ∧ ii ≤ xs.length ∧ cn = .int .i64 (n : Int) ∧ Hid (PI w wr xs v ps n ii)) (fun _ _ _ i _ => xs.length - (intOf i).toNat)
  case atStart => exact ⟨0, 0, [], rfl, Nat.zero_le _, rfl, Lib.hid ⟨OwN.nil _ _, Below.refl _ _, rfl, Nat.zero_le _, Nat.le_refl _⟩⟩
  case round =>
    obtain ⟨ii, n, ps, rfl, hi, rfl, HI⟩ := hrel
    obtain ⟨pa, pc, hv, -⟩ := HI.out.own.rd
    subst hv
    have hn := HI.out.few
    have hn' : (n : Int) ≤ 15 := by omega
    have hpl := HI.out.len
    by_cases hlt : ii < xs.length
    · have hlt' : (ii : Int) < (xs.length : Int) := by omega
      have hi0 : (0 : Int) ≤ (ii : Int) := by omega
      obtain ⟨b, off, rfl, hc1⟩ := (HR.out.1.new HI.out.below) ii hlt
      rw [getD_at hlt] at hc1
      have P : Hid (Calls Tryd.prog 89 #[.int .i64 ((n : Int) + 1), .string (txt xs[ii])] wr fun e w' => e = .returned (.bool (endB (n + 1) xs[ii])) ∧ Below wr.heap.size wr w') := Lib.hid (ended_any (n + 1) (by omega) xs[ii] (HR.out.2.1 _ (List.getElem_mem hlt)) wr (HR.out.2.2.step HI.out.below))
      have HS := Lib.hid (cut_step hlt HI.out.eq)
      generalize xs[ii] = x at hc1 P HS
      cases hb : endB (n + 1) x with
      | true =>
        rw [hb] at P
        have HE := Lib.hid (HS.out.1 hb)
        clear hb HS
        generalize txt x = tx at hc1 P
        go_wp2_with (first
          | (go_at_call 89; (with_reducible refine P.out.mono ?_); rintro e w1 ⟨rfl, hb1⟩; have z1 := hb1.size; have z0 := HI.out.below.size; have hO := (HI.out.own.new hb1).new ((Below.refl w1.heap.size w1).alloc (Nat.le_refl _) (.cells #[.int .i64 ((n : Int) + 1)] 3)))
          | (at_builtin; refine wpList_num rfl (.tmp 18) (.tmp 20) rfl w.heap.size (.slice pa ps.length pc) ps rfl hO w1.heap.size (n + 1) rfl (nrow w1 _ rfl (n + 1)) (by omega) (by simp; omega) ?_; intro v3 w3 o3 h3))
        go_roundw
        case rel => exact ⟨ii + 1, 0, ps ++ [n + 1], by go_num, by omega, rfl, Lib.hid ⟨o3, (HI.out.app hb1 h3 o3).2, HE.out, Nat.zero_le _, by rw [List.length_append, List.length_singleton]; omega⟩⟩
        case measure => simp [intOf]; omega
      | false =>
        rw [hb] at P
        have HE := Lib.hid (HS.out.2 hb)
        clear hb HS
        generalize txt x = tx at hc1 P
        go_wp2_with (go_at_call 89; (with_reducible refine P.out.mono ?_); rintro e w1 ⟨rfl, hb1⟩)
        go_roundw
        case rel => exact ⟨ii + 1, n + 1, ps, by go_num, by omega, by go_num, Lib.hid ⟨HI.out.own.new hb1, HI.out.below.trans (hb1.mono HI.out.below.size), HE.out.1, HE.out.2, by omega⟩⟩
        case measure => simp [intOf]; omega
    · have hlt' : (xs.length : Int) ≤ (ii : Int) := by omega
      have e : ii = xs.length := by omega
      subst e
      have he := HI.out.eq
      rw [List.drop_length, cutG_nil] at he
      by_cases h0 : n = 0
      · subst h0
        rw [if_pos rfl, List.append_nil] at he
        have HE : Hid (OwN wr w.heap.size (.slice pa ps.length pc) (cutG E 0 xs) ∧ Below w.heap.size w wr) := Lib.hid ⟨he ▸ HI.out.own, HI.out.below⟩
        clear he
        go_wp2
        go_ret
        exact ⟨_, rfl, HE.out⟩
      · rw [if_neg h0] at he
        have h0' : (0 : Int) < (n : Int) := by omega
        have z0 := HI.out.below.size
        have hO := HI.out.own.new ((Below.refl wr.heap.size wr).alloc (Nat.le_refl _) (.cells #[.int .i64 (n : Int)] 3))
        have HE := Lib.hid he
        clear he h0
        go_wp2_with (at_builtin; refine wpList_num rfl (.tmp 25) (.tmp 27) rfl w.heap.size (.slice pa ps.length pc) ps rfl hO wr.heap.size n rfl (nrow wr _ rfl n) (by omega) (by simp; omega) ?_; intro v3 w3 o3 h3)
        go_ret
        exact ⟨_, rfl, HE.out ▸ o3, (HI.out.app (Below.refl _ _) h3 o3).2⟩
theorem cut_last {xs : List (List UInt8)} {i n : Nat} (h : i + 1 = xs.length) {ps : List Nat} (he : ps ++ cutG E (n + 1) (xs.drop (i + 1)) = cutG E 0 xs) : ps ++ [n + 1] ++ cutG E 0 (xs.drop (i + 1)) = cutG E 0 xs := by
  rw [h, List.drop_length, cutG_nil, if_neg (by omega)] at he
  rw [h, List.drop_length, cutG_nil, if_pos rfl, List.append_nil]
  exact he
set_option maxRecDepth 100000 in
set_option maxHeartbeats 8000000 in
theorem rcut_any {w : World} (a : Option Addr) (c : Nat) (xs : List (List UInt8)) (hR : RdT w a xs) (hl : xs.length ≤ 1000) (hx : ∀ x ∈ xs, x.length ≤ 100000) :
    Calls Tryd.prog 35 #[.slice a xs.length c] w fun e w' => ∃ v, e = .returned v ∧ OwN w' w.heap.size v (cutG E 0 xs) ∧ Below w.heap.size w w' := by
  have hl' : (xs.length : Int) ≤ 1000 := by omega
  have HR := Lib.hid (And.intro hR hx)
  clear hR hx
  go_enter Tryd.func35, Tryd.ntmps35
  go_wp2
  go_loopw [3, 4, 5] (fun v cn i wr => ∃ (ii n : Nat) (ps : List Nat), i = .int .i64 (ii : Int) ∧ ii ≤ xs.length ∧ cn = .int .i64 (n : Int) ∧ Hid (PI w wr xs v ps n ii ∧ (ii = xs.length → n = 0))) (fun _ _ i _ => xs.length - (intOf i).toNat)
  case atStart => exact ⟨0, 0, [], rfl, Nat.zero_le _, rfl, Lib.hid ⟨⟨OwN.nil _ _, Below.refl _ _, rfl, Nat.zero_le _, Nat.le_refl _⟩, fun _ => rfl⟩⟩
  case round =>
    obtain ⟨ii, n, ps, rfl, hi, rfl, HI⟩ := hrel
    obtain ⟨pa, pc, hv, -⟩ := HI.out.1.own.rd
    subst hv
    have hn := HI.out.1.few
    have hn' : (n : Int) ≤ 15 := by omega
    have hpl := HI.out.1.len
    by_cases hlt : ii < xs.length
    · have hlt' : (ii : Int) < (xs.length : Int) := by omega
      have hi0 : (0 : Int) ≤ (ii : Int) := by omega
      obtain ⟨b, off, rfl, hc1⟩ := (HR.out.1.new HI.out.1.below) ii hlt
      rw [getD_at hlt] at hc1
      have P := Lib.hid (rends_any xs[ii] (HR.out.2 _ (List.getElem_mem hlt)))
      have HS := Lib.hid (cut_step hlt HI.out.1.eq)
      generalize xs[ii] = x at hc1 P HS
      have HEB : Hid (endB (n + 1) x = decide (16 ≤ n + 1 ∨ (2 ≤ n + 1 ∧ E x = true))) := Lib.hid rfl
      generalize txt x = tx at hc1 P
      by_cases h16 : n + 1 = 16
      · have hq : ((n : Int) + 1 == 16) = true := by rw [beq_iff_eq]; omega
        have HE := Lib.hid (HS.out.1 (HEB.out.trans (decide_eq_true (.inl (by omega)))))
        clear HS HEB P h16
        have z0 := HI.out.1.below.size
        have hO := HI.out.1.own.new ((Below.refl wr.heap.size wr).alloc (Nat.le_refl _) (.cells #[.int .i64 ((n : Int) + 1)] 3))
        go_wp2_with (at_builtin; refine wpList_num rfl (.tmp 34) (.tmp 36) rfl w.heap.size (.slice pa ps.length pc) ps rfl hO wr.heap.size (n + 1) rfl (nrow wr _ rfl (n + 1)) (by omega) (by simp; omega) ?_; intro v3 w3 o3 h3)
        go_roundw
        case rel => exact ⟨ii + 1, 0, ps ++ [n + 1], by go_num, by omega, rfl, Lib.hid ⟨⟨o3, (HI.out.1.app (Below.refl _ _) h3 o3).2, HE.out, Nat.zero_le _, by rw [List.length_append, List.length_singleton]; omega⟩, fun _ => rfl⟩⟩
        case measure => simp [intOf]; omega
      have hq : ((n : Int) + 1 == 16) = false := by rw [beq_eq_false_iff_ne]; omega
      by_cases h2 : 2 ≤ n + 1
      · have hq2 : decide ((2 : Int) ≤ (n : Int) + 1) = true := decide_eq_true (by omega)
        cases hE : E x with
        | true =>
          rw [hE] at P
          have HE := Lib.hid (HS.out.1 (HEB.out.trans (decide_eq_true (.inr ⟨h2, hE⟩))))
          clear HS HEB h16 h2 hE
          go_wp2_with (first
            | (go_at_call 66; (with_reducible refine (P.out _).mono ?_); rintro e w1 ⟨rfl, hb1⟩; have z1 := hb1.size; have z0 := HI.out.1.below.size; have hO := (HI.out.1.own.new hb1).new ((Below.refl w1.heap.size w1).alloc (Nat.le_refl _) (.cells #[.int .i64 ((n : Int) + 1)] 3)))
            | (at_builtin; refine wpList_num rfl (.tmp 34) (.tmp 36) rfl w.heap.size (.slice pa ps.length pc) ps rfl hO w1.heap.size (n + 1) rfl (nrow w1 _ rfl (n + 1)) (by omega) (by simp; omega) ?_; intro v3 w3 o3 h3))
          go_roundw
          case rel => exact ⟨ii + 1, 0, ps ++ [n + 1], by go_num, by omega, rfl, Lib.hid ⟨⟨o3, (HI.out.1.app hb1 h3 o3).2, HE.out, Nat.zero_le _, by rw [List.length_append, List.length_singleton]; omega⟩, fun _ => rfl⟩⟩
          case measure => simp [intOf]; omega
        | false =>
          rw [hE] at P
          have HN := Lib.hid (HS.out.2 (HEB.out.trans (decide_eq_false fun h => by rcases h with h | ⟨_, h⟩; omega; rw [hE] at h; cases h)))
          by_cases hla : ii + 1 = xs.length
          · have hq3 : ((ii : Int) == (xs.length : Int) - 1) = true := by rw [beq_iff_eq]; omega
            have HE := Lib.hid (cut_last hla HN.out.1)
            clear HS HEB HN h16 h2 hE hla
            go_wp2_with (first
              | (go_at_call 66; (with_reducible refine (P.out _).mono ?_); rintro e w1 ⟨rfl, hb1⟩; have z1 := hb1.size; have z0 := HI.out.1.below.size; have hO := (HI.out.1.own.new hb1).new ((Below.refl w1.heap.size w1).alloc (Nat.le_refl _) (.cells #[.int .i64 ((n : Int) + 1)] 3)))
              | (at_builtin; refine wpList_num rfl (.tmp 34) (.tmp 36) rfl w.heap.size (.slice pa ps.length pc) ps rfl hO w1.heap.size (n + 1) rfl (nrow w1 _ rfl (n + 1)) (by omega) (by simp; omega) ?_; intro v3 w3 o3 h3))
            go_roundw
            case rel => exact ⟨ii + 1, 0, ps ++ [n + 1], by go_num, by omega, rfl, Lib.hid ⟨⟨o3, (HI.out.1.app hb1 h3 o3).2, HE.out, Nat.zero_le _, by rw [List.length_append, List.length_singleton]; omega⟩, fun _ => rfl⟩⟩
            case measure => simp [intOf]; omega
          · have hq3 : ((ii : Int) == (xs.length : Int) - 1) = false := by rw [beq_eq_false_iff_ne]; omega
            clear HS HEB h16 h2 hE
            go_wp2_with (go_at_call 66; (with_reducible refine (P.out _).mono ?_); rintro e w1 ⟨rfl, hb1⟩)
            go_roundw
            case rel => exact ⟨ii + 1, n + 1, ps, by go_num, by omega, by go_num, Lib.hid ⟨⟨HI.out.1.own.new hb1, HI.out.1.below.trans (hb1.mono HI.out.1.below.size), HN.out.1, HN.out.2, by omega⟩, fun e => absurd e hla⟩⟩
            case measure => simp [intOf]; omega
      · have hq2 : decide ((2 : Int) ≤ (n : Int) + 1) = false := decide_eq_false (by omega)
        have HN := Lib.hid (HS.out.2 (HEB.out.trans (decide_eq_false fun h => by rcases h with h | ⟨h, _⟩; omega; exact h2 h)))
        by_cases hla : ii + 1 = xs.length
        · have hq3 : ((ii : Int) == (xs.length : Int) - 1) = true := by rw [beq_iff_eq]; omega
          have HE := Lib.hid (cut_last hla HN.out.1)
          clear HS HEB HN h16 h2 hla P
          have z0 := HI.out.1.below.size
          have hO := HI.out.1.own.new ((Below.refl wr.heap.size wr).alloc (Nat.le_refl _) (.cells #[.int .i64 ((n : Int) + 1)] 3))
          go_wp2_with (at_builtin; refine wpList_num rfl (.tmp 34) (.tmp 36) rfl w.heap.size (.slice pa ps.length pc) ps rfl hO wr.heap.size (n + 1) rfl (nrow wr _ rfl (n + 1)) (by omega) (by simp; omega) ?_; intro v3 w3 o3 h3)
          go_roundw
          case rel => exact ⟨ii + 1, 0, ps ++ [n + 1], by go_num, by omega, rfl, Lib.hid ⟨⟨o3, (HI.out.1.app (Below.refl _ _) h3 o3).2, HE.out, Nat.zero_le _, by rw [List.length_append, List.length_singleton]; omega⟩, fun _ => rfl⟩⟩
          case measure => simp [intOf]; omega
        · have hq3 : ((ii : Int) == (xs.length : Int) - 1) = false := by rw [beq_eq_false_iff_ne]; omega
          clear HS HEB h16 h2 P
          go_wp2
          go_roundw
          case rel => exact ⟨ii + 1, n + 1, ps, by go_num, by omega, by go_num, Lib.hid ⟨⟨HI.out.1.own, HI.out.1.below, HN.out.1, HN.out.2, by omega⟩, fun e => absurd e hla⟩⟩
          case measure => simp [intOf]; omega
    · have hlt' : (xs.length : Int) ≤ (ii : Int) := by omega
      have e : ii = xs.length := by omega
      subst e
      have h0 := HI.out.2 rfl
      subst h0
      have he := HI.out.1.eq
      rw [List.drop_length, cutG_nil, if_pos rfl, List.append_nil] at he
      have HE : Hid (OwN wr w.heap.size (.slice pa ps.length pc) (cutG E 0 xs) ∧ Below w.heap.size w wr) := Lib.hid ⟨he ▸ HI.out.1.own, HI.out.1.below⟩
      clear he
      go_wp2
      go_ret
      exact ⟨_, rfl, HE.out⟩
end Go.Proofs.YtfjlkphpeneahaaDoor
