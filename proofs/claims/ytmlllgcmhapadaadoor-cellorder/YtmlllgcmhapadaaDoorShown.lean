/- The walk of the law CellShown. -/
import Derived.Test.YtmlllgcmhapadaaDoorEqv
import Derived.Test.YtmlllgcmhapadaaDoorAwake
import Derived.Lib.QuietBelow
namespace Go.Proofs.YtmlllgcmhapadaaDoor
open Go Go.RowKit Go.Sort

theorem mixed : Tryd.prog.follows .mixedOrders = true := by kernel_rfl
theorem keep6 {w W : World} {x y : V} (h : Below ((w.alloc (.cells #[.int .i64 x.k, .int .i64 x.n, .string x.s] 23)).alloc (.cells #[.int .i64 y.k, .int .i64 y.n, .string y.s] 23)).heap.size ((w.alloc (.cells #[.int .i64 x.k, .int .i64 x.n, .string x.s] 23)).alloc (.cells #[.int .i64 y.k, .int .i64 y.n, .string y.s] 23)) W) :
    Bx W w.heap.size (.int .i64 x.k) (.int .i64 x.n) (.string x.s) ∧ Bx W (w.heap.size + 1) (.int .i64 y.k) (.int .i64 y.n) (.string y.s) ∧ Below w.heap.size w W := by
  have h1 : Bx (w.alloc (.cells #[.int .i64 x.k, .int .i64 x.n, .string x.s] 23)) w.heap.size (.int .i64 x.k) (.int .i64 x.n) (.string x.s) := Bx.new _ _ _ _
  have h2 := h1.keep (Ch.alloc (fun _ => False) _ (.cells #[.int .i64 y.k, .int .i64 y.n, .string y.s] 23)) id
  have h3 : Bx ((w.alloc (.cells #[.int .i64 x.k, .int .i64 x.n, .string x.s] 23)).alloc (.cells #[.int .i64 y.k, .int .i64 y.n, .string y.s] 23)) (w.heap.size + 1) (.int .i64 y.k) (.int .i64 y.n) (.string y.s) := by
    have := Bx.new (w.alloc (.cells #[.int .i64 x.k, .int .i64 x.n, .string x.s] 23)) (.int .i64 y.k) (.int .i64 y.n) (.string y.s)
    rwa [World.size_alloc] at this
  have hc := Ch.of_new (S := fun _ => False) h
  exact ⟨h2.keep hc id, h3.keep hc id, (((Ch.alloc (fun _ => False) w _).tr (Ch.alloc _ _ _)).tr hc).new⟩

set_option maxRecDepth 100000 in
set_option maxHeartbeats 1000000 in
theorem cellShown_any (x y : V) (hx : x.ok) (hy : y.ok) (w : World) (hE : Env w) :
    Calls Tryd.prog 8 #[x.val, y.val] w fun e w' => e = .returned (.bool true) ∧ Below w.heap.size w w' := by
  have HE := Lib.hid hE
  clear hE
  have hRx := rright_any x
  have hRy := rright_any y
  have HS1 := Lib.hid (show_any x hx)
  have HS2 := Lib.hid (show_any y hy)
  clear hx hy
  cases hrx : rightB x with
  | true =>
    cases hry : rightB y with
    | true =>
      rw [hrx] at hRx
      rw [hry] at hRy
      have HR := Lib.hid (And.intro hRx hRy)
      have HO := Lib.hid (shown_one hrx hry)
      clear hRx hRy hrx hry
      generalize showL x = sx at HS1 HO
      generalize showL y = sy at HS2 HO
      obtain ⟨k, n, s⟩ := x
      obtain ⟨k', n', s'⟩ := y
      unfold V.val at *
      simp only at HR HS1 HS2
      go_enter Tryd.func8, Tryd.ntmps8
      go_wp2_with fail
      refine (awake_any _ (HE.out.keep ?_)).mono ?_
      · exact ((Ch.alloc (fun _ => False) w _).tr (Ch.alloc _ _ _)).new
      rintro e w1 ⟨rfl, hb1⟩
      have HE1 : Hid (Env w1) := Lib.hid (HE.out.keep (((Ch.alloc (fun _ => False) w _).tr (Ch.alloc _ _ _)).tr (Ch.of_new hb1)).new)
      obtain ⟨B1, B2, hB1⟩ := keep6 (x := ⟨k, n, s⟩) (y := ⟨k', n', s'⟩) hb1
      have HB1 := Lib.hid B1
      have HB2 := Lib.hid B2
      obtain ⟨f0, f1, f2⟩ := B1.cells
      obtain ⟨g0, g1, g2⟩ := B2.cells
      clear B1 B2 hb1
      go_wp2_with fail
      refine (HR.out.1 _).mono ?_
      rintro e w2 ⟨rfl, hb2⟩
      have HB3 := Lib.hid (HB1.out.keep (Ch.of_new (S := fun _ => False) hb2) id)
      have HB4 := Lib.hid (HB2.out.keep (Ch.of_new (S := fun _ => False) hb2) id)
      have HE2 : Hid (Env w2) := Lib.hid (HE1.out.keep hb2)
      have hB2 := hB1.trans (hb2.mono hB1.size)
      clear f0 f1 f2 g0 g1 g2 hb2 HB1 HB2 hB1
      obtain ⟨g0, g1, g2⟩ := HB4.out.cells
      go_wp2_with fail
      refine (HR.out.2 _).mono ?_
      rintro e w3 ⟨rfl, hb3⟩
      have HB5 := Lib.hid (HB3.out.keep (Ch.of_new (S := fun _ => False) hb3) id)
      have HB6 := Lib.hid (HB4.out.keep (Ch.of_new (S := fun _ => False) hb3) id)
      have HE3 : Hid (Env w3) := Lib.hid (HE2.out.keep hb3)
      have hB3 := hB2.trans (hb3.mono hB2.size)
      clear g0 g1 g2 hb3 HB3 HB4 hB2
      have f0 := cell_regrown HB5.out.cells.1
      have f1 := cell_regrown HB5.out.cells.2.1
      have f2 := cell_regrown HB5.out.cells.2.2
      have g0 := cell_regrown HB6.out.cells.1
      have g1 := cell_regrown HB6.out.cells.2.1
      have g2 := cell_regrown HB6.out.cells.2.2
      have c1 := Lib.hid (fun d os => Calls.regrown_of (HS1.out (grow (redrawn w3 d) os) (HE3.out.keep (below_regrown w3 d os))))
      have c2 := Lib.hid (fun d os => Calls.regrown_of (HS2.out (grow (redrawn w3 d) os) (HE3.out.keep (below_regrown w3 d os))))
      have hq := run_eqV k n k' n' s s'
      generalize sameV ⟨k, n, s⟩ ⟨k', n', s'⟩ = eqb at hq HO
      go_wp2_with fail
      refine wp_region_quiet_below mixed (by kernel_rfl) ?_
      repeat (quiet_step ((go_at_call 12; first | (with_reducible exact c1.out _ _) | (with_reducible exact c2.out _ _))))
      refine wpQuiet_nil ?_
      intro _ hw'
      obtain ⟨⟨dq, osq⟩, hw''⟩ := hw'
      subst hw''
      go_wp2
      go_ret
      exact ⟨ret_bool (by rw [HO.out]; cases eqb <;> rfl), hB3.trans ((below_regrown w3 dq osq).mono hB3.size)⟩
    | false =>
      rw [hrx] at hRx
      rw [hry] at hRy
      have HR := Lib.hid (And.intro hRx hRy)
      clear hRx hRy hrx hry HS1 HS2
      obtain ⟨k, n, s⟩ := x
      obtain ⟨k', n', s'⟩ := y
      unfold V.val at *
      simp only at HR
      go_enter Tryd.func8, Tryd.ntmps8
      go_wp2_with fail
      refine (awake_any _ (HE.out.keep ?_)).mono ?_
      · exact ((Ch.alloc (fun _ => False) w _).tr (Ch.alloc _ _ _)).new
      rintro e w1 ⟨rfl, hb1⟩
      obtain ⟨B1, B2, hB1⟩ := keep6 (x := ⟨k, n, s⟩) (y := ⟨k', n', s'⟩) hb1
      have HB1 := Lib.hid B1
      have HB2 := Lib.hid B2
      obtain ⟨f0, f1, f2⟩ := B1.cells
      clear B1 B2 hb1
      go_wp2_with fail
      refine (HR.out.1 _).mono ?_
      rintro e w2 ⟨rfl, hb2⟩
      have HB4 := Lib.hid (HB2.out.keep (Ch.of_new (S := fun _ => False) hb2) id)
      have hB2 := hB1.trans (hb2.mono hB1.size)
      clear f0 f1 f2 hb2 HB1 HB2 hB1
      obtain ⟨g0, g1, g2⟩ := HB4.out.cells
      go_wp2_with fail
      refine (HR.out.2 _).mono ?_
      rintro e w3 ⟨rfl, hb3⟩
      have hB3 := hB2.trans (hb3.mono hB2.size)
      go_wp2
      go_ret
      exact ⟨rfl, hB3⟩
  | false =>
    rw [hrx] at hRx
    have HR := Lib.hid hRx
    clear hRx hRy hrx HS1 HS2
    obtain ⟨k, n, s⟩ := x
    obtain ⟨k', n', s'⟩ := y
    unfold V.val at *
    simp only at HR
    go_enter Tryd.func8, Tryd.ntmps8
    go_wp2_with fail
    refine (awake_any _ (HE.out.keep ?_)).mono ?_
    · exact ((Ch.alloc (fun _ => False) w _).tr (Ch.alloc _ _ _)).new
    rintro e w1 ⟨rfl, hb1⟩
    obtain ⟨B1, B2, hB1⟩ := keep6 (x := ⟨k, n, s⟩) (y := ⟨k', n', s'⟩) hb1
    obtain ⟨f0, f1, f2⟩ := B1.cells
    clear B1 B2 hb1
    go_wp2_with fail
    refine (HR.out _).mono ?_
    rintro e w2 ⟨rfl, hb2⟩
    have hB2 := hB1.trans (hb2.mono hB1.size)
    go_wp2
    go_ret
    exact ⟨rfl, hB2⟩
end Go.Proofs.YtmlllgcmhapadaaDoor
