/- The walk of the law's runs. -/
import Derived.Test.YtogihpofkjpokaaGreatDoorRArmA
import Derived.Test.YtogihpofkjpokaaGreatDoorRArmB
import Derived.Test.YtogihpofkjpokaaGreatDoorRArmC
import Derived.Test.YtogihpofkjpokaaGreatDoorRArmD
import Derived.Deep.RegionHeld3
import Derived.BigRegion
namespace Go.Proofs.YtogihpofkjpokaaGreatDoor
open Go Go.RowKit Go.Maps
open D4 (put Asc Lg Dk dp More RdI)
open F5 (txt txt_size data_txt RdT OwT)
attribute [-go_sem] Builtin.append_

def DS0 : DS := ⟨none, 0, [], [], none, 0, []⟩
theorem start_rr {w w3 : World} {sb d : Nat} {l : Lg} {T : List (List UInt8)} (hS : Str w3 sb d (opened none 0 false [] []) l fun k => w.heap.size ≤ k) (hU : Up l (opened none 0 false [] []) 13 0) (hb : Below w.heap.size w w3) (hp : 0 < w.heap.size) :
    RR w ((w3.alloc (.cells DS0.cells 49)).alloc (.cells DS0.cells 49)) T w3.heap.size (w3.heap.size + 1) sb d (opened none 0 false [] []) l DS0 DS0 (fun _ => False) 13 0 l.room := by
  have hz := hb.size
  have hB2 : Below w3.heap.size w3 ((w3.alloc (.cells DS0.cells 49)).alloc (.cells DS0.cells 49)) := ((Below.refl _ _).alloc (Nat.le_refl _) _).alloc (by simp) _
  have hI : ∀ V, DS.In DS0 V (fun _ => False) := fun V => ⟨fun i hi => absurd hi (by simp [DS0]), fun i hi => absurd hi (by simp [DS0]), fun _ => rfl, fun _ => rfl, fun ad e => (by cases e), fun ad e => (by cases e)⟩
  refine ⟨⟨(Below.heap_alloc _ _ _ (by simp)).trans (heap_alloc_new w3 _), ?_, hI _, hI _, id, id, by omega, hz, by omega, fun k e => e.elim, hb.trans (hB2.mono hz), hp⟩, ?_, ⟨by simp [DS0], by simp [DS0], by simp [DS0], by simp [DS0], by simp [DS0], by simp [DS0]⟩, .inl ⟨hU, fun _ => ⟨rfl, rfl, rfl, by simp [DS0], by simp [DS0]⟩⟩, rfl⟩
  · have := heap_alloc_new (w3.alloc (.cells DS0.cells 49)) (.cells DS0.cells 49)
    rwa [show (w3.alloc (.cells DS0.cells 49)).heap.size = w3.heap.size + 1 by simp] at this
  · exact (hS.low.new hB2).mono (fun k _ hk => ⟨hk.1, fun e => by have := hk.2; omega, fun e => by have := hk.2; omega, id⟩) (GQ.no0 hp)

set_option maxRecDepth 100000 in
set_option maxHeartbeats 8000000 in
theorem runs_any {w : World} (hK : S1.KR w) (a0 : Option Addr) (c : Nat) (xs : List Xa) (hR : RdA w a0 xs) (hxl : xs.length ≤ maxLen) :
    Calls Tryz.prog 7 #[.slice a0 xs.length c] w fun e w' => ∃ b, e = .returned (.bool b) ∧ (b = false → Fine xs ∧ ¬ NoClash (texts xs)) ∧ Below w.heap.size w w' := by
  have P19 := Lib.hid (size_any (c := c) hR hxl)
  have hpos := hK.pos
  have hrmf := fun h : Fine xs => rmA_fine xs h.2
  have hxl' : (xs.length : Int) ≤ 9223372036854775807 := by unfold maxLen at hxl; omega
  have P9 : Hid (∀ W, Fine xs → Below w.heap.size w W → Calls Tryz.prog 9 #[.int .i64 ((2000 + rmA xs : Nat) : Int)] W fun e w' => e = .returned (.tuple #[.pointer (some ⟨W.heap.size, 0, none⟩), .int .i64 0]) ∧ Dk w' W.heap.size ⟨((2000 + rmA xs : Nat) : Int), false, false, 0, []⟩ (fun k => w.heap.size ≤ k) ∧ Below w.heap.size w w') := Lib.hid fun W hF hW => by
    have := hrmf hF
    have := hF.1
    refine (D4.new_up W ((2000 + rmA xs : Nat) : Int) (by omega) (by omega)).mono ?_
    rintro e w' ⟨rfl, hD, hb, _⟩
    exact ⟨rfl, D4.Dk.mono hD fun k _ hk => Nat.le_trans hW.size hk, hW.trans (hb.mono hW.size)⟩
  have P10 : Hid (∀ W d rm, Dk W d ⟨rm, false, false, 0, []⟩ (fun k => w.heap.size ≤ k) → Below w.heap.size w W → Calls Tryz.prog 10 #[.pointer (some ⟨d, 0, none⟩)] W fun e w' => ∃ sb, e = .returned (.tuple #[.pointer (some ⟨sb, 0, none⟩), .int .i64 0]) ∧ Str w' sb d (opened none 0 false [] []) ⟨rm, false, false, 0, []⟩ (fun k => w.heap.size ≤ k) ∧ Below w.heap.size w w') := Lib.hid fun W d rm hD hW => by
    refine (openC hD (fun k hk => Nat.le_trans hW.size hk) (up_new rm) LogAt.nil (by decide) (hK.step hW) (by omega)).mono ?_
    rintro e w' ⟨sb, rfl, hS, hb⟩
    exact ⟨sb, rfl, hS, hW.trans (hb.mono hW.size)⟩
  have HR := Lib.hid (And.intro hR (And.intro hpos hrmf))
  clear hR hpos hrmf hK hxl
  generalize hrme : ((2000 + rmA xs : Nat) : Int) = rm at *
  have HRM := Lib.hid hrme
  clear hrme
  go_enter Tryz.func7, Tryz.ntmps7
  go_wp2_with fail
  refine P19.out.mono ?_
  rintro e w1 ⟨hsz, hb1⟩
  rcases hsz with ⟨hF, he⟩ | ⟨hF, he⟩
  · subst he
    go_wp2_with (first
      | (go_at_call 9; (with_reducible refine (P9.out _ hF hb1).mono ?_); rintro e w2 ⟨rfl, hD2, hb2⟩)
      | (go_at_call 10; (with_reducible refine (P10.out _ _ _ hD2 hb2).mono ?_); rintro e w3 ⟨sb0, rfl, hS3, hb3⟩))
    have H0 : Hid (RR w ((w3.alloc (.cells DS0.cells 49)).alloc (.cells DS0.cells 49)) (texts xs) w3.heap.size (w3.heap.size + 1) sb0 w1.heap.size (opened none 0 false [] []) ⟨rm, false, false, 0, []⟩ DS0 DS0 (fun _ => False) 13 0 rm) := Lib.hid (start_rr hS3 ⟨none, none, up_new rm⟩ hb3 HR.out.2.1)
    have HF := Lib.hid hF
    have hx40 : (xs.length : Int) ≤ 40 := by have := hF.1; omega
    clear hD2 hb2 hb1 hS3 hb3 hF P9 P10 P19 hxl'
    change Code.wp _ _ _ _ ((w3.alloc (.cells DS0.cells 49)).alloc (.cells DS0.cells 49))
    generalize (w3.alloc (.cells DS0.cells 49)).alloc (.cells DS0.cells 49) = W0 at *
    generalize w3.heap.size + 1 = bm at *
    generalize w3.heap.size = bw at *
    generalize w1.heap.size = d at *
    go_loopw [7, 12, 13, 14, 15, 16, 17, 18, 19, 20, 21, 22, 46] (fun sv _ _ _ _ _ _ _ _ _ _ _ i wr => ∃ (ii sb : Nat) (a : Ab) (l : Lg) (s m : DS) (Q : Nat → Prop), i = .int .i64 (ii : Int) ∧ ii ≤ xs.length ∧ sv = .pointer (some ⟨sb, 0, none⟩) ∧ Hid (RR w wr (texts xs) bw bm sb d a l s m Q (13 + bsA (xs.take ii)) ii rm)) (fun _ _ _ _ _ _ _ _ _ _ _ _ i _ => xs.length - (intOf i).toNat)
    case atStart => exact ⟨0, sb0, _, _, DS0, DS0, _, rfl, Nat.zero_le _, rfl, H0⟩
    case round =>
      clear H0
      obtain ⟨ii, sb, a, l, s, m, Q, rfl, hi, rfl, HI⟩ := hrel
      by_cases hlt : ii < xs.length
      · by_cases h0 : xs[ii].ac.what = 0
        · cases hdn : a.down with
          | false => exact arm_PUT_UP HR HRM HF hx40 _ HI hlt h0 hdn
          | true => exact arm_PUT_DN HR HRM HF hx40 _ HI hlt h0 hdn
        by_cases h1 : xs[ii].ac.what = 1
        · cases hdn : a.down with
          | false => exact arm_COMMIT_UP HR HRM HF hx40 _ HI hlt h1 hdn
          | true => exact arm_COMMIT_DN HR HRM HF hx40 _ HI hlt h1 hdn
        by_cases h2 : xs[ii].ac.what = 2
        · cases hdn : a.down with
          | false => exact arm_DROP_UP HR HRM HF hx40 _ HI hlt h2 hdn
          | true => exact arm_DROP_DN HR HRM HF hx40 _ HI hlt h2 hdn
        by_cases h3 : xs[ii].ac.what = 3
        · cases hdn : a.down with
          | false =>
            cases hraw : xs[ii].ac.raw with
            | false => exact arm_COLLECT_UP_F HR HRM HF hx40 _ HI hlt h3 hdn hraw
            | true => exact arm_COLLECT_UP_T HR HRM HF hx40 _ HI hlt h3 hdn hraw
          | true =>
            cases hraw : xs[ii].ac.raw with
            | false => exact arm_COLLECT_DN_F HR HRM HF hx40 _ HI hlt h3 hdn hraw
            | true => exact arm_COLLECT_DN_T HR HRM HF hx40 _ HI hlt h3 hdn hraw
        by_cases h4 : xs[ii].ac.what = 4
        · cases hdn : a.down with
          | false => exact arm_FUEL_UP HR HRM HF hx40 _ HI hlt h4 hdn
          | true => exact arm_FUEL_DN HR HRM HF hx40 _ HI hlt h4 hdn
        by_cases h5 : xs[ii].ac.what = 5
        · exact arm_FALL HR HRM HF hx40 _ HI hlt h5
        have hel : ∀ k : Int, 0 ≤ k → k ≤ 5 → xs[ii].ac.what ≠ k := fun k k0 k5 e => by
          have : k = 0 ∨ k = 1 ∨ k = 2 ∨ k = 3 ∨ k = 4 ∨ k = 5 := by omega
          rcases this with rfl | rfl | rfl | rfl | rfl | rfl
          · exact h0 e
          · exact h1 e
          · exact h2 e
          · exact h3 e
          · exact h4 e
          · exact h5 e
        cases hdn : a.down with
        | false => exact arm_ELSE_UP HR HRM HF hx40 _ HI hlt hel hdn
        | true => exact arm_ELSE_DN HR HRM HF hx40 _ HI hlt hel hdn
      · have hlt' : (xs.length : Int) ≤ (ii : Int) := by omega
        go_wp2
        go_ret
        exact ⟨true, rfl, fun h => (by cases h), HI.out.di.below⟩
  · subst he
    clear P9 P10 P19
    go_wp2
    go_ret
    exact ⟨true, rfl, fun h => (by cases h), hb1⟩
end Go.Proofs.YtogihpofkjpokaaGreatDoor
