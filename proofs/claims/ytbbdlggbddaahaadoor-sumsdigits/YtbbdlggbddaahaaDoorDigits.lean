/- The law SumsDigits returns true at every text, and the text reads as it did; the listed variable is tied to the program's text by the card. Conditions: none but the card's own (the variable 'pleach/sums.roundConst' begins as the program's text lays it). -/
import Derived.Test.YtbbdlggbddaahaaDoorLaid
import Derived.Test.YtbbdlggbddaahaaDoorWalkE
namespace Go.Proofs.YtbbdlggbddaahaaDoor
open Go.ChangeShapes Go.WideShapes Go.ChangeAt Go.RowKit
open Go.ChangeMaps (open_string shut_string)

set_option maxRecDepth 100000 in
set_option maxHeartbeats 400000 in
theorem sumsDigits_any (s : ByteArray) (hs : s.size ≤ maxLen) (w : World) (hK : KR w) :
    Calls Tryd.prog 7 #[.string s] w fun e w' => e = .returned (.bool true) ∧ Below w.heap.size w w' := by
  have HS := Lib.hid hs
  unfold maxLen at hs
  by_cases hl : s.size ≤ 5000
  · have hi : (s.size : Int) ≤ 5000 := by omega
    obtain ⟨hx, hhx⟩ : ∃ x : ByteArray, x = ⟨(hexL s.data.toList).toArray⟩ := ⟨_, rfl⟩
    have HX := Lib.hid hhx
    have e1 : rawT hx.data.toList = s ∧ rawB hx.data.toList = true := by
      rw [hhx]
      show rawT (hexL s.data.toList) = s ∧ rawB (hexL s.data.toList) = true
      unfold rawT rawB
      rw [raw_hex]
      exact ⟨rfl, rfl⟩
    have z1 : hx.size ≤ 1000000 := by rw [hhx]; show (hexL s.data.toList).toArray.size ≤ _; rw [List.size_toArray, hexL_length]; show 2 * s.size ≤ _; omega
    have E1 := Lib.hid e1
    have Z1 := Lib.hid z1
    clear hhx e1 z1
    have p1 : ∀ w, Calls Tryd.prog 15 #[.string s] w fun e w' => e = .returned (.string hx) ∧ Below w.heap.size w w' := fun w => by rw [HX.out]; exact hex_any s w (by omega)
    have p2 : ∀ w, Calls Tryd.prog 18 #[.string s] w fun e w' => e = .returned (.string hx) ∧ Below w.heap.size w w' := fun w => by rw [HX.out]; exact rhex_any s w (by omega)
    have p3 : ∀ w, Calls Tryd.prog 16 #[.string hx] w fun e w' => e = .returned (.tuple #[.string s, .bool true]) ∧ Below w.heap.size w w' := fun w => by
      have h := raw_any hx w Z1.out
      rw [E1.out.1, E1.out.2] at h
      exact h
    have p4 := fun w => raw_any s w (by omega)
    have p5 := fun w => rraw_any s w (by omega)
    generalize rawT s.data.toList = tt at p4 p5
    generalize rawB s.data.toList = tb at p4 p5
    have P := Lib.hid (And.intro p1 (And.intro p2 (And.intro p3 (And.intro p4 p5))))
    clear p1 p2 p3 p4 p5 HX E1 Z1
    go_enter Tryd.func7, Tryd.ntmps7
    go_wp2_with fail
    refine (alive_any w hK).mono ?_
    rintro e w1 ⟨rfl, hb1⟩
    go_wp2_with fail
    refine (P.out.1 _).mono ?_
    rintro e w2 ⟨rfl, hb2⟩
    go_wp2_with fail
    refine (P.out.2.2.1 _).mono ?_
    rintro e w3 ⟨rfl, hb3⟩
    go_wp2_with fail
    refine (P.out.2.2.2.1 _).mono ?_
    rintro e w4 ⟨rfl, hb4⟩
    go_wp2_with fail
    refine (P.out.2.2.2.2 _).mono ?_
    rintro e w5 ⟨rfl, hb5⟩
    go_wp2_with fail
    refine (P.out.2.1 _).mono ?_
    rintro e w6 ⟨rfl, hb6⟩
    have hB : Below w.heap.size w w6 := by
      have z2 := hb1.size
      have z3 := hb2.size
      have z4 := hb3.size
      have z5 := hb4.size
      have z6 := hb5.size
      exact ((((hb1.trans (hb2.mono z2)).trans (hb3.mono (by omega))).trans (hb4.mono (by omega))).trans (hb5.mono (by omega))).trans (hb6.mono (by omega))
    clear hb1 hb2 hb3 hb4 hb5 hb6
    go_wp2
    go_ret
    exact ⟨rfl, hB⟩
  · have hi : 5000 < (s.size : Int) := by omega
    go_enter Tryd.func7, Tryd.ntmps7
    go_wp2_with fail
    refine (alive_any w hK).mono ?_
    rintro e w1 ⟨rfl, hb1⟩
    go_wp2_with fail
    go_ret
    exact ⟨rfl, hb1⟩

set_option maxRecDepth 100000 in
theorem sumsDigits_lifted (os : Os) (started : os.Started) (H : Type) (enc : TypeId × Value → H) :
    ReturnsInHanded {} Tryd.checked os 7 .any (fun w args => (Rows.sumsDigitsSpec.pre enc Tryd.prog Tryd.f7 [] false w args ∧ laidMetH Tryd.prog Rows.sumsDigitsRow.laid w) ∧ sizedMet enc Tryd.prog Tryd.f7 (OpenSpec.ofChange Rows.sumsDigitsSpec) false w args)
      (Rows.sumsDigitsSpec.post enc Tryd.prog Tryd.f7 false true false false) := by
  refine returnsInHanded_of_change_and (C := Tryd.checked) (X := fun w _ => laidMetH Tryd.prog Rows.sumsDigitsRow.laid w) (fun _ _ _ hh h => h.of_heap hh) own started (by kernel_rfl) Tryd.func7
    (ChangeSpec.witness_shaped (enc := enc) (C := Tryd.checked) (os := os) (X := fun w _ => laidMetH Tryd.prog Rows.sumsDigitsRow.laid w) false (World.doorLaid Tryd.prog 400 os) #[.string ByteArray.empty] 8 rfl (World.shaped_of_RefB (by kernel_rfl) (by kernel_rfl)) (by kernel_rfl) (by kernel_rfl) (by kernel_rfl) (door_met os _)) ?_
  intro W base args ds gs before hval0 hW _ _ hL _
  have hval : ∀ (j : Nat) t v, Tryd.f7.params[j]? = some t → args[j]? = some v → Value.okWide Tryd.prog W .any base t v := hval0
  have hW' := hW
  obtain ⟨p, q, hA0, hV, rfl, hfz, hnd⟩ := hW
  have hA : DataW.TrodAll enc Tryd.prog W 0 (fun _ => true) true Tryd.f7.params.toList args.toList ds p := hA0
  rw [Tryd.params7] at hA hval
  obtain ⟨v0, d0, rfl, rfl, h0⟩ := trodAll_one hA
  obtain ⟨rfl, rfl⟩ := trodVars_none hV
  obtain ⟨s, rfl, rfl, rfl, hs⟩ := open_string Tryd.underlying9 (hval 0 9 v0 rfl rfl) h0
  have hK := of_laid hL
  clear hA0 hval0
  simp only [List.append_nil] at hW'
  refine (sumsDigits_any s hs W hK).mono fun e W' ⟨he, hb⟩ => ?_
  subst he
  exact ⟨_, rfl, _, _, _, [], [], [], hW', trodAll_mk1 (shut_bool Tryd.underlying4 _), trodAll_mk1 (shut_string Tryd.underlying9 hs), rfl, hb.frame _, fun h => by cases h⟩

theorem sumsDigits_holds : Rows.SumsDigitsSaid :=
  OpenClaim.holds_of_wide 7 Tryd.f7 rfl rfl rfl rfl rfl rfl rfl ⟨rfl, rfl, rfl, rfl, rfl⟩ rfl rfl rfl rfl rfl (by kernel_rfl) Tryd.func7 (by kernel_rfl)
    (of_decide_eq_true (by kernel_rfl)) (by unfold Func.isWrapper; rw [if_neg (of_decide_eq_false (by kernel_rfl))]; exact ⟨rfl, rfl⟩)
    (fun os started H enc _ => sumsDigits_lifted os started H enc)

/-- The tied card. -/
theorem sumsDigits_card : Rows.SumsDigitsCardSaid :=
  Claim7.holds_tied_plain_at .later [] [.data] true (true, "7fc0a51bc4d6e67e061dd88350be0a199e252c08472dc229328e17f44dd7b8de") false
    sumsDigits_holds (fun _ h => by cases h) (by kernel_rfl) (fun _ h => by cases h) sumsDigits_row_tie rfl ⟨rfl, rfl⟩ (by kernel_rfl) rfl
    (fun f fn hf hfn => by
      obtain rfl : f = 7 := Option.some.inj ((show Tryd.prog.funcNamed "pleach/pleachlaw01.SumsDigits" = some 7 by kernel_rfl).symm.trans hf) |>.symm
      obtain rfl : fn = Tryd.f7 := (Option.some.inj (Tryd.func7.symm.trans hfn)).symm
      exact ⟨by kernel_rfl, fun j t ht => by
        rw [Tryd.params7] at ht
        have hm : t ∈ [9] := by simpa using Array.mem_of_getElem? ht
        have hall : ([9].all fun u => !Tryd.prog.wantsStandIn u) = true := by kernel_rfl
        exact (show Tryd.prog.wantsStandIn t = false by simpa using List.all_eq_true.1 hall t hm)⟩)
    (by kernel_rfl)
#print axioms sumsDigits_card
end Go.Proofs.YtbbdlggbddaahaaDoor
