/- The law SumsPrints returns true at every text, and the text reads as it did; the listed variable is tied to the program's text by the card. Conditions: none but the card's own (the variable 'pleach/sums.roundConst' begins as the program's text lays it). -/
import Derived.Test.YtbbdlggbddaahaaDoorLaid
import Derived.Test.YtbbdlggbddaahaaDoorWalkBy
import Derived.Test.YtbbdlggbddaahaaDoorWalkK
namespace Go.Proofs.YtbbdlggbddaahaaDoor
open Go.ChangeShapes Go.WideShapes Go.ChangeAt Go.RowKit
open Go.ChangeMaps (open_string shut_string)

set_option maxRecDepth 100000 in
set_option maxHeartbeats 400000 in
theorem rprint_any (s : ByteArray) (hs : s.size ≤ 100000) (w : World) :
    Calls Tryd.prog 10 #[.string s] w fun e w' => e = .returned (.string ⟨(shaL s.data.toList).toArray⟩) ∧ Kp w.heap.size w w' := by
  go_enter Tryd.func10, Tryd.ntmps10
  go_wp2_with fail
  refine (h_any w).mono ?_
  rintro e w1 ⟨rfl, h1, k1⟩
  have z1 := h1.lt
  go_wp2_with fail
  refine (k_any w1).mono ?_
  rintro e w2 ⟨rfl, h2, k2⟩
  have h1' := h1.kp k2 z1
  go_wp2_with fail
  refine (by_any s hs st0 kl rfl _ _ _ _ w2 h1' h2).mono ?_
  rintro e w3 ⟨rfl, k3⟩
  have z2 := k1.size
  have z3 := k2.size
  go_wp2_with fail
  go_ret
  exact ⟨rfl, (k1.trans (k2.mono z2)).trans (k3.mono (by omega))⟩
set_option maxRecDepth 100000 in
set_option maxHeartbeats 400000 in
theorem sumsPrints_any (s : ByteArray) (hs : s.size ≤ maxLen) (w : World) (hK : KR w) :
    Calls Tryd.prog 3 #[.string s] w fun e w' => e = .returned (.bool true) ∧ Kp w.heap.size w w' := by
  have HS := Lib.hid hs
  unfold maxLen at hs
  by_cases hl : s.size ≤ 2000
  · have hi : (s.size : Int) ≤ 2000 := by omega
    have p1 := fun w hK => print_any s (by omega) w hK
    have p2 := fun w => rprint_any s (by omega) w
    generalize (⟨(shaL s.data.toList).toArray⟩ : ByteArray) = t at p1 p2
    have P := Lib.hid (And.intro p1 p2)
    clear p1 p2
    go_enter Tryd.func3, Tryd.ntmps3
    go_wp2_with fail
    refine (alive_any w hK).mono ?_
    rintro e w1 ⟨rfl, hb1⟩
    have hK1 := hK.step hb1
    go_wp2_with fail
    refine (P.out.1 _ hK1).mono ?_
    rintro e w2 ⟨rfl, hb2⟩
    go_wp2_with fail
    refine (P.out.2 _).mono ?_
    rintro e w3 ⟨rfl, hb3⟩
    have z1 := hb1.size
    have z2 := hb2.size
    have kp := ((Below.kp hb1).trans ((Below.kp hb2).mono z1)).trans (hb3.mono (show w.heap.size ≤ w2.heap.size by omega))
    clear hb1 hb2 hb3 z1 z2 hK1
    go_wp2
    go_ret
    exact ⟨by simp, kp⟩
  · have hi : 2000 < (s.size : Int) := by omega
    go_enter Tryd.func3, Tryd.ntmps3
    go_wp2_with fail
    refine (alive_any w hK).mono ?_
    rintro e w1 ⟨rfl, hb1⟩
    go_wp2_with fail
    go_ret
    exact ⟨rfl, Below.kp hb1⟩

set_option maxRecDepth 100000 in
theorem sumsPrints_lifted (os : Os) (started : os.Started) (H : Type) (enc : TypeId × Value → H) :
    ReturnsInHanded {} Tryd.checked os 3 .any (fun w args => (Rows.sumsPrintsSpec.pre enc Tryd.prog Tryd.f3 [] false w args ∧ laidMetH Tryd.prog Rows.sumsPrintsRow.laid w) ∧ sizedMet enc Tryd.prog Tryd.f3 (OpenSpec.ofChange Rows.sumsPrintsSpec) false w args)
      (Rows.sumsPrintsSpec.post enc Tryd.prog Tryd.f3 false true false false) := by
  refine returnsInHanded_of_change_and (C := Tryd.checked) (X := fun w _ => laidMetH Tryd.prog Rows.sumsPrintsRow.laid w) (fun _ _ _ hh h => h.of_heap hh) own started (by kernel_rfl) Tryd.func3
    (ChangeSpec.witness_shaped (enc := enc) (C := Tryd.checked) (os := os) (X := fun w _ => laidMetH Tryd.prog Rows.sumsPrintsRow.laid w) false (World.doorLaid Tryd.prog 400 os) #[.string ByteArray.empty] 8 rfl (World.shaped_of_RefB (by kernel_rfl) (by kernel_rfl)) (by kernel_rfl) (by kernel_rfl) (by kernel_rfl) (door_met os _)) ?_
  intro W base args ds gs before hval0 hW _ _ hL _
  have hval : ∀ (j : Nat) t v, Tryd.f3.params[j]? = some t → args[j]? = some v → Value.okWide Tryd.prog W .any base t v := hval0
  have hW' := hW
  obtain ⟨p, q, hA0, hV, rfl, hfz, hnd⟩ := hW
  have hA : DataW.TrodAll enc Tryd.prog W 0 (fun _ => true) true Tryd.f3.params.toList args.toList ds p := hA0
  rw [Tryd.params3] at hA hval
  obtain ⟨v0, d0, rfl, rfl, h0⟩ := trodAll_one hA
  obtain ⟨rfl, rfl⟩ := trodVars_none hV
  obtain ⟨s, rfl, rfl, rfl, hs⟩ := open_string Tryd.underlying9 (hval 0 9 v0 rfl rfl) h0
  have hK := of_laid hL
  clear hA0 hval0
  simp only [List.append_nil] at hW'
  refine (sumsPrints_any s hs W hK).mono fun e W' ⟨he, hb⟩ => ?_
  subst he
  exact ⟨_, rfl, _, _, _, [], [], [], hW', trodAll_mk1 (shut_bool Tryd.underlying4 _), trodAll_mk1 (shut_string Tryd.underlying9 hs), rfl, hb.frame _, fun h => by cases h⟩

theorem sumsPrints_holds : Rows.SumsPrintsSaid :=
  OpenClaim.holds_of_wide 3 Tryd.f3 rfl rfl rfl rfl rfl rfl rfl ⟨rfl, rfl, rfl, rfl, rfl⟩ rfl rfl rfl rfl rfl (by kernel_rfl) Tryd.func3 (by kernel_rfl)
    (of_decide_eq_true (by kernel_rfl)) (by unfold Func.isWrapper; rw [if_neg (of_decide_eq_false (by kernel_rfl))]; exact ⟨rfl, rfl⟩)
    (fun os started H enc _ => sumsPrints_lifted os started H enc)

/-- The tied card. -/
theorem sumsPrints_card : Rows.SumsPrintsCardSaid :=
  Claim7.holds_tied_plain_at .later [] [.data] true (true, "7fc0a51bc4d6e67e061dd88350be0a199e252c08472dc229328e17f44dd7b8de") false
    sumsPrints_holds (fun _ h => by cases h) (by kernel_rfl) (fun _ h => by cases h) sumsPrints_row_tie rfl ⟨rfl, rfl⟩ (by kernel_rfl) rfl
    (fun f fn hf hfn => by
      obtain rfl : f = 3 := Option.some.inj ((show Tryd.prog.funcNamed "pleach/pleachlaw01.SumsPrints" = some 3 by kernel_rfl).symm.trans hf) |>.symm
      obtain rfl : fn = Tryd.f3 := (Option.some.inj (Tryd.func3.symm.trans hfn)).symm
      exact ⟨by kernel_rfl, fun j t ht => by
        rw [Tryd.params3] at ht
        have hm : t ∈ [9] := by simpa using Array.mem_of_getElem? ht
        have hall : ([9].all fun u => !Tryd.prog.wantsStandIn u) = true := by kernel_rfl
        exact (show Tryd.prog.wantsStandIn t = false by simpa using List.all_eq_true.1 hall t hm)⟩)
    (by kernel_rfl)
#print axioms sumsPrints_card
end Go.Proofs.YtbbdlggbddaahaaDoor
