/- The law SumsRoots returns true at every text, and the text reads as it did; the listed variable is tied to the program's text by the card. Conditions: none but the card's own (the variable 'pleach/sums.roundConst' begins as the program's text lays it). -/
import Derived.Test.YtbbdlggbddaahaaDoorLaid
import Derived.Test.YtbbdlggbddaahaaDoorWalkBy
import Derived.Test.YtbbdlggbddaahaaDoorRootsK
namespace Go.Proofs.YtbbdlggbddaahaaDoor
open Go.ChangeShapes Go.WideShapes Go.ChangeAt Go.RowKit
open Go.ChangeMaps (open_string shut_string)

theorem calls_cast {f : FuncId} {args args' : Array Value} {w : World} {R : Ending → World → Prop} (h : Calls Tryd.prog f args w R) (e : args = args') : Calls Tryd.prog f args' w R := e ▸ h
theorem roots_sq (w : World) : Calls Tryd.prog 12 #[.int .i64 8, .int .i64 2] w fun e w' => ∃ g cap, e = .returned (.slice (some ⟨g, 0, none⟩) 8 cap) ∧ w.heap.size ≤ g ∧ WC w' g st0.l ∧ Kp w.heap.size w w' := by
  have h := roots_any 8 2 (by decide) (by decide) (by decide) p8 primes8 rfl w
  rw [roots8] at h
  exact h
theorem roots_cu (w : World) : Calls Tryd.prog 12 #[.int .i64 64, .int .i64 3] w fun e w' => ∃ g cap, e = .returned (.slice (some ⟨g, 0, none⟩) 64 cap) ∧ w.heap.size ≤ g ∧ WC w' g kl ∧ Kp w.heap.size w w' := by
  have h := roots_any 64 3 (by decide) (by decide) (by decide) p64 primes64 rfl w
  rw [roots64] at h
  exact h
theorem shaG_eq (l : List UInt8) : (shaG (fun j => kl.getD j 0) st0 l).text = shaL l := rfl
set_option maxRecDepth 100000 in
set_option maxHeartbeats 400000 in
theorem sumsRoots_any (s : ByteArray) (hs : s.size ≤ maxLen) (w : World) (hK : KR w) :
    Calls Tryd.prog 4 #[.string s] w fun e w' => e = .returned (.bool true) ∧ Kp w.heap.size w w' := by
  have HS := Lib.hid hs
  unfold maxLen at hs
  by_cases hl : s.size ≤ 200
  · have hi : (s.size : Int) ≤ 200 := by omega
    have p1 := fun w hK => print_any s (by omega) w hK
    have p2 := fun g1 c1 g2 c2 w hf hk => by_any s (by omega) st0 kl rfl g1 c1 g2 c2 w hf hk
    rw [shaG_eq] at p2
    generalize (⟨(shaL s.data.toList).toArray⟩ : ByteArray) = t at p1 p2
    have P := Lib.hid (And.intro p1 p2)
    clear p1 p2
    go_enter Tryd.func4, Tryd.ntmps4
    go_wp2_with fail
    refine (alive_any w hK).mono ?_
    rintro e w1 ⟨rfl, hb1⟩
    have hK1 := hK.step hb1
    go_wp2_with fail
    refine (P.out.1 _ hK1).mono ?_
    rintro e w2 ⟨rfl, hb2⟩
    have z1 := hb1.size
    have z2 := hb2.size
    have kp2 := (Below.kp hb1).trans ((Below.kp hb2).mono z1)
    clear hb1 hb2 hK1
    go_wp2_with fail
    refine (roots_sq _).mono ?_
    rintro e w3 ⟨g1, c1, rfl, hg1, h1, k3⟩
    have y1 := h1.lt
    have kp3 := kp2.trans (k3.mono (show w.heap.size ≤ w2.heap.size by omega))
    have z3 := k3.size
    clear kp2 k3
    go_wp2_with fail
    refine (roots_cu _).mono ?_
    rintro e w4 ⟨g2, c2, rfl, hg2, h2, k4⟩
    have h1' := h1.kp k4 y1
    have kp4 := kp3.trans (k4.mono (show w.heap.size ≤ w3.heap.size by omega))
    have z4 := k4.size
    clear kp3 k4 h1
    go_wp2_with fail
    refine (P.out.2 g1 c1 g2 c2 _ h1' h2).mono ?_
    rintro e w5 ⟨rfl, k5⟩
    have kp5 := kp4.trans (k5.mono (show w.heap.size ≤ w4.heap.size by omega))
    clear kp4 k5 h1' h2 hg1 hg2 y1 z1 z2 z3 z4
    go_wp2
    go_ret
    exact ⟨by simp, kp5⟩
  · have hi : 200 < (s.size : Int) := by omega
    go_enter Tryd.func4, Tryd.ntmps4
    go_wp2_with fail
    refine (alive_any w hK).mono ?_
    rintro e w1 ⟨rfl, hb1⟩
    go_wp2_with fail
    go_ret
    exact ⟨rfl, Below.kp hb1⟩

set_option maxRecDepth 100000 in
theorem sumsRoots_lifted (os : Os) (started : os.Started) (H : Type) (enc : TypeId × Value → H) :
    ReturnsInHanded {} Tryd.checked os 4 .any (fun w args => (Rows.sumsRootsSpec.pre enc Tryd.prog Tryd.f4 [] false w args ∧ laidMetH Tryd.prog Rows.sumsRootsRow.laid w) ∧ sizedMet enc Tryd.prog Tryd.f4 (OpenSpec.ofChange Rows.sumsRootsSpec) false w args)
      (Rows.sumsRootsSpec.post enc Tryd.prog Tryd.f4 false true false false) := by
  refine returnsInHanded_of_change_and (C := Tryd.checked) (X := fun w _ => laidMetH Tryd.prog Rows.sumsRootsRow.laid w) (fun _ _ _ hh h => h.of_heap hh) own started (by kernel_rfl) Tryd.func4
    (ChangeSpec.witness_shaped (enc := enc) (C := Tryd.checked) (os := os) (X := fun w _ => laidMetH Tryd.prog Rows.sumsRootsRow.laid w) false (World.doorLaid Tryd.prog 400 os) #[.string ByteArray.empty] 8 rfl (World.shaped_of_RefB (by kernel_rfl) (by kernel_rfl)) (by kernel_rfl) (by kernel_rfl) (by kernel_rfl) (door_met os _)) ?_
  intro W base args ds gs before hval0 hW _ _ hL _
  have hval : ∀ (j : Nat) t v, Tryd.f4.params[j]? = some t → args[j]? = some v → Value.okWide Tryd.prog W .any base t v := hval0
  have hW' := hW
  obtain ⟨p, q, hA0, hV, rfl, hfz, hnd⟩ := hW
  have hA : DataW.TrodAll enc Tryd.prog W 0 (fun _ => true) true Tryd.f4.params.toList args.toList ds p := hA0
  rw [Tryd.params4] at hA hval
  obtain ⟨v0, d0, rfl, rfl, h0⟩ := trodAll_one hA
  obtain ⟨rfl, rfl⟩ := trodVars_none hV
  obtain ⟨s, rfl, rfl, rfl, hs⟩ := open_string Tryd.underlying9 (hval 0 9 v0 rfl rfl) h0
  have hK := of_laid hL
  clear hA0 hval0
  simp only [List.append_nil] at hW'
  refine (sumsRoots_any s hs W hK).mono fun e W' ⟨he, hb⟩ => ?_
  subst he
  exact ⟨_, rfl, _, _, _, [], [], [], hW', trodAll_mk1 (shut_bool Tryd.underlying4 _), trodAll_mk1 (shut_string Tryd.underlying9 hs), rfl, hb.frame _, fun h => by cases h⟩

theorem sumsRoots_holds : Rows.SumsRootsSaid :=
  OpenClaim.holds_of_wide 4 Tryd.f4 rfl rfl rfl rfl rfl rfl rfl ⟨rfl, rfl, rfl, rfl, rfl⟩ rfl rfl rfl rfl rfl (by kernel_rfl) Tryd.func4 (by kernel_rfl)
    (of_decide_eq_true (by kernel_rfl)) (by unfold Func.isWrapper; rw [if_neg (of_decide_eq_false (by kernel_rfl))]; exact ⟨rfl, rfl⟩)
    (fun os started H enc _ => sumsRoots_lifted os started H enc)

/-- The tied card. -/
theorem sumsRoots_card : Rows.SumsRootsCardSaid :=
  Claim7.holds_tied_plain_at .later [] [.data] true (true, "7fc0a51bc4d6e67e061dd88350be0a199e252c08472dc229328e17f44dd7b8de") false
    sumsRoots_holds (fun _ h => by cases h) (by kernel_rfl) (fun _ h => by cases h) sumsRoots_row_tie rfl ⟨rfl, rfl⟩ (by kernel_rfl) rfl
    (fun f fn hf hfn => by
      obtain rfl : f = 4 := Option.some.inj ((show Tryd.prog.funcNamed "pleach/pleachlaw01.SumsRoots" = some 4 by kernel_rfl).symm.trans hf) |>.symm
      obtain rfl : fn = Tryd.f4 := (Option.some.inj (Tryd.func4.symm.trans hfn)).symm
      exact ⟨by kernel_rfl, fun j t ht => by
        rw [Tryd.params4] at ht
        have hm : t ∈ [9] := by simpa using Array.mem_of_getElem? ht
        have hall : ([9].all fun u => !Tryd.prog.wantsStandIn u) = true := by kernel_rfl
        exact (show Tryd.prog.wantsStandIn t = false by simpa using List.all_eq_true.1 hall t hm)⟩)
    (by kernel_rfl)
#print axioms sumsRoots_card
end Go.Proofs.YtbbdlggbddaahaaDoor
