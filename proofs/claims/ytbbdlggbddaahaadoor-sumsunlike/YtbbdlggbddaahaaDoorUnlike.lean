/- The law SumsUnlike returns true at every text, place and four bytes, and its arguments read as they did; the listed variable is tied to the program's text by the card. Conditions: none but the card's own (the variable 'pleach/sums.roundConst' begins as the program's text lays it). -/
import Derived.Test.YtbbdlggbddaahaaDoorLaid
import Derived.Test.YtbbdlggbddaahaaDoorWalkU
import Derived.Laws.IdiomArrays
namespace Go.Proofs.YtbbdlggbddaahaaDoor
open Go.ChangeShapes Go.WideShapes Go.ChangeAt Go.RowKit
open Go.ChangeMaps (open_string shut_string)

set_option maxRecDepth 100000 in
set_option maxHeartbeats 400000 in
theorem unlike_out (s : ByteArray) (_hs : s.size ≤ maxLen) (a : Int) (h : 5000 < s.size ∨ a < 0 ∨ (s.size : Int) ≤ a) (c0 c1 c2 c3 : UInt8) (w : World) (hK : KR w) :
    Calls Tryd.prog 6 #[.string s, .int .i64 a, .agg #[.int .u8 c0.toNat, .int .u8 c1.toNat, .int .u8 c2.toNat, .int .u8 c3.toNat]] w fun e w' => e = .returned (.bool true) ∧ Below w.heap.size w w' := by
  unfold maxLen at _hs
  have fin : ∀ w1, Below (w.alloc (.cells #[.int .u8 (c0.toNat : Int), .int .u8 c1.toNat, .int .u8 c2.toNat, .int .u8 c3.toNat] 30)).heap.size (w.alloc (.cells #[.int .u8 (c0.toNat : Int), .int .u8 c1.toNat, .int .u8 c2.toNat, .int .u8 c3.toNat] 30)) w1 → Below w.heap.size w w1 := fun w1 hb =>
    ((Below.refl _ _).alloc (Nat.le_refl _) _).trans (hb.mono (by simp))
  have F := Lib.hid fin
  clear fin
  by_cases h1 : 5000 < s.size
  · have hd1 : decide ((5000 : Int) < (s.size : Int)) = true := decide_eq_true (by omega)
    have hi1 : (5000 : Int) < (s.size : Int) := by omega
    clear h
    go_enter Tryd.func6, Tryd.ntmps6
    go_wp2_with fail
    refine (alive_any _ (hK.alloc _)).mono ?_
    rintro e w1 ⟨rfl, hb1⟩
    go_wp2
    go_ret
    exact ⟨rfl, F.out w1 hb1⟩
  · have hd1 : decide ((5000 : Int) < (s.size : Int)) = false := decide_eq_false (by omega)
    by_cases h2 : a < 0
    · have hd2 : decide (a < 0) = true := decide_eq_true h2
      clear h
      go_enter Tryd.func6, Tryd.ntmps6
      go_wp2_with fail
      refine (alive_any _ (hK.alloc _)).mono ?_
      rintro e w1 ⟨rfl, hb1⟩
      go_wp2
      go_ret
      exact ⟨rfl, F.out w1 hb1⟩
    · have hd2 : decide (a < 0) = false := decide_eq_false h2
      have h3 : (s.size : Int) ≤ a := by omega
      have hd3 : decide ((s.size : Int) ≤ a) = true := decide_eq_true h3
      clear h
      go_enter Tryd.func6, Tryd.ntmps6
      go_wp2_with fail
      refine (alive_any _ (hK.alloc _)).mono ?_
      rintro e w1 ⟨rfl, hb1⟩
      go_wp2
      go_ret
      exact ⟨rfl, F.out w1 hb1⟩
theorem sumsUnlike_any (s : ByteArray) (hs : s.size ≤ maxLen) (a : Int) (c0 c1 c2 c3 : UInt8) (w : World) (hK : KR w) :
    Calls Tryd.prog 6 #[.string s, .int .i64 a, .agg #[.int .u8 c0.toNat, .int .u8 c1.toNat, .int .u8 c2.toNat, .int .u8 c3.toNat]] w fun e w' => e = .returned (.bool true) ∧ Below w.heap.size w w' := by
  by_cases h : 5000 < s.size ∨ a < 0 ∨ (s.size : Int) ≤ a
  · exact unlike_out s hs a h c0 c1 c2 c3 w hK
  · obtain ⟨n, hn⟩ : ∃ n : Nat, a = (n : Int) := ⟨a.toNat, by omega⟩
    subst hn
    exact unlike_in s (by omega) n (by omega) c0 c1 c2 c3 w hK

theorem Tryd.cells5 : Tryd.prog.cellsOf 5 = 1 := by kernel_rfl
theorem Tryd.cells30 : Tryd.prog.cellsOf 30 = 4 := by kernel_rfl
theorem list4 {α : Type} (l : List α) (h : (⟨l⟩ : Array α).size = 4) : ∃ a b c d, l = [a, b, c, d] := by
  match l, h with
  | [a, b, c, d], _ => exact ⟨a, b, c, d, rfl⟩
theorem byte_of {n : Int} (h : (Lit.int .u8 n).wf = true) : ∃ c : UInt8, n = (c.toNat : Int) := by
  have hb := bounds_u8 h
  refine ⟨UInt8.ofNat n.toNat, ?_⟩
  rw [UInt8.toNat_ofNat']
  omega

set_option maxHeartbeats 400000 in
set_option maxRecDepth 100000 in
theorem sumsUnlike_lifted (os : Os) (started : os.Started) (H : Type) (enc : TypeId × Value → H) :
    ReturnsInHanded {} Tryd.checked os 6 .any (fun w args => (Rows.sumsUnlikeSpec.pre enc Tryd.prog Tryd.f6 [] false w args ∧ laidMetH Tryd.prog Rows.sumsUnlikeRow.laid w) ∧ sizedMet enc Tryd.prog Tryd.f6 (OpenSpec.ofChange Rows.sumsUnlikeSpec) false w args)
      (Rows.sumsUnlikeSpec.post enc Tryd.prog Tryd.f6 false true false false) := by
  refine returnsInHanded_of_change_and (C := Tryd.checked) (X := fun w _ => laidMetH Tryd.prog Rows.sumsUnlikeRow.laid w) (fun _ _ _ hh h => h.of_heap hh) own started (by kernel_rfl) Tryd.func6
    (ChangeSpec.witness_shaped (enc := enc) (C := Tryd.checked) (os := os) (X := fun w _ => laidMetH Tryd.prog Rows.sumsUnlikeRow.laid w) false (World.doorLaid Tryd.prog 400 os) #[.string ByteArray.empty, .int .i64 0, .agg #[.int .u8 0, .int .u8 0, .int .u8 0, .int .u8 0]] 8 rfl (World.shaped_of_RefB (by kernel_rfl) (by kernel_rfl)) (by kernel_rfl) (by kernel_rfl) (by kernel_rfl) (door_met os _)) ?_
  intro W base args ds gs before hval0 hW _ _ hL _
  have hval : ∀ (j : Nat) t v, Tryd.f6.params[j]? = some t → args[j]? = some v → Value.okWide Tryd.prog W .any base t v := hval0
  have hW' := hW
  obtain ⟨p, q, hA0, hV, rfl, hfz, hnd⟩ := hW
  have hA : DataW.TrodAll enc Tryd.prog W 0 (fun _ => true) true Tryd.f6.params.toList args.toList ds p := hA0
  rw [Tryd.params6] at hA hval
  obtain ⟨v0, v1, v2, d0, d1, d2, p0, p1, p2, rfl, rfl, rfl, h0, h1, h2⟩ := trodAll_three hA
  obtain ⟨rfl, rfl⟩ := trodVars_none hV
  obtain ⟨s, rfl, rfl, rfl, hs⟩ := open_string Tryd.underlying9 (hval 0 9 v0 rfl rfl) h0
  obtain ⟨a, rfl, rfl, rfl, wa⟩ := open_int Tryd.underlying3 (hval 1 3 v1 rfl rfl) h1
  obtain ⟨cs, rfl, hsz, _⟩ : ∃ cs, v2 = .agg cs ∧ cs.size = Tryd.prog.cellsOf 30 ∧ Row.okWide Tryd.prog W .any base 30 cs := by
    have := hval 2 30 v2 rfl rfl
    simpa [Value.okWide, Tryd.underlying30] using this
  rw [Tryd.cells30] at hsz
  obtain ⟨l⟩ := cs
  obtain ⟨b0, b1, b2, b3, rfl⟩ := list4 l hsz
  obtain ⟨fuel, hf⟩ := h2
  obtain ⟨y0, y1, y2, y3, m, hx, hy0, hy1, hy2, hy3⟩ := trod_array4 Tryd.underlying30 Tryd.cells5 hf
  obtain ⟨x0, e0, rfl, w0⟩ := DataW.trod_int Tryd.underlying5 hy0
  obtain ⟨x1, e1, rfl, w1⟩ := DataW.trod_int Tryd.underlying5 hy1
  obtain ⟨x2, e2, rfl, w2⟩ := DataW.trod_int Tryd.underlying5 hy2
  obtain ⟨x3, e3, rfl, w3⟩ := DataW.trod_int Tryd.underlying5 hy3
  simp at e0 e1 e2 e3
  subst e0 e1 e2 e3
  simp only [Prod.mk.injEq] at hx
  obtain ⟨rfl, rfl⟩ := hx
  obtain ⟨c0, rfl⟩ := byte_of w0
  obtain ⟨c1, rfl⟩ := byte_of w1
  obtain ⟨c2, rfl⟩ := byte_of w2
  obtain ⟨c3, rfl⟩ := byte_of w3
  have hK := of_laid hL
  clear hA0 hval0
  simp only [List.append_nil] at hW'
  refine (sumsUnlike_any s hs a c0 c1 c2 c3 W hK).mono fun e W' ⟨he, hb⟩ => ?_
  subst he
  have rdA : ∀ sp : Nat → Bool, DataW.Trod enc Tryd.prog W' 0 sp true 30 (.agg #[.int .u8 c0.toNat, .int .u8 c1.toNat, .int .u8 c2.toNat, .int .u8 c3.toNat]) (DataW.agg [.lit (.int .u8 c0.toNat), .lit (.int .u8 c1.toNat), .lit (.int .u8 c2.toNat), .lit (.int .u8 c3.toNat)]) [] := fun sp => ⟨2, by simp [DataW.trod, Value.cells, Tryd.underlying30, Tryd.underlying5, Tryd.cells30, Tryd.cells5, w0, w1, w2, w3, show List.range 4 = [0, 1, 2, 3] from rfl]⟩
  exact ⟨_, rfl, _, _, _, [], [], [], hW', trodAll_mk1 (shut_bool Tryd.underlying4 _), trodAll_mk3 (shut_string Tryd.underlying9 hs) (shut_int Tryd.underlying3 wa) (rdA _), rfl, hb.frame _, fun h => by cases h⟩

theorem sumsUnlike_holds : Rows.SumsUnlikeSaid :=
  OpenClaim.holds_of_wide 6 Tryd.f6 rfl rfl rfl rfl rfl rfl rfl ⟨rfl, rfl, rfl, rfl, rfl⟩ rfl rfl rfl rfl rfl (by kernel_rfl) Tryd.func6 (by kernel_rfl)
    (of_decide_eq_true (by kernel_rfl)) (by unfold Func.isWrapper; rw [if_neg (of_decide_eq_false (by kernel_rfl))]; exact ⟨rfl, rfl⟩)
    (fun os started H enc _ => sumsUnlike_lifted os started H enc)

/-- The tied card. -/
theorem sumsUnlike_card : Rows.SumsUnlikeCardSaid :=
  Claim7.holds_tied_plain_at .later [] [.data] true (true, "7fc0a51bc4d6e67e061dd88350be0a199e252c08472dc229328e17f44dd7b8de") false
    sumsUnlike_holds (fun _ h => by cases h) (by kernel_rfl) (fun _ h => by cases h) sumsUnlike_row_tie rfl ⟨rfl, rfl⟩ (by kernel_rfl) rfl
    (fun f fn hf hfn => by
      obtain rfl : f = 6 := Option.some.inj ((show Tryd.prog.funcNamed "pleach/pleachlaw01.SumsUnlike" = some 6 by kernel_rfl).symm.trans hf) |>.symm
      obtain rfl : fn = Tryd.f6 := (Option.some.inj (Tryd.func6.symm.trans hfn)).symm
      exact ⟨by kernel_rfl, fun j t ht => by
        rw [Tryd.params6] at ht
        have hm : t ∈ [9, 3, 30] := by simpa using Array.mem_of_getElem? ht
        have hall : ([9, 3, 30].all fun u => !Tryd.prog.wantsStandIn u) = true := by kernel_rfl
        exact (show Tryd.prog.wantsStandIn t = false by simpa using List.all_eq_true.1 hall t hm)⟩)
    (by kernel_rfl)
#print axioms sumsUnlike_card
end Go.Proofs.YtbbdlggbddaahaaDoor
