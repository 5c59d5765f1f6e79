/- The walk of the law CellValues. -/
import Derived.Test.YtmlllgcmhapadaaDoorRShow
import Derived.Test.YtmlllgcmhapadaaDoorShown
namespace Go.Proofs.YtmlllgcmhapadaaDoor
open Go Go.RowKit Go.Sort

set_option maxRecDepth 100000 in
set_option maxHeartbeats 1000000 in
theorem cellValues_any (x : V) (hx : x.ok) (w : World) (hE : Env w) :
    Calls Tryd.prog 3 #[x.val] w fun e w' => e = .returned (.bool true) ∧ Below w.heap.size w w' := by
  have HE := Lib.hid hE
  have HR1 := Lib.hid (right_any x)
  have HR2 := Lib.hid (rright_any x)
  have HS1 := Lib.hid (show_any x hx)
  have HS2 := Lib.hid (rshow_any x hx)
  generalize rightB x = rb at HR1 HR2
  generalize showL x = sx at HS1 HS2
  clear hE hx
  obtain ⟨k, n, s⟩ := x
  unfold V.val at *
  simp only at HR1 HR2 HS1 HS2
  by_cases hs : s.size ≤ 1100
  · have hs' : (s.size : Int) ≤ 1100 := by omega
    go_enter Tryd.func3, Tryd.ntmps3
    go_wp2_with fail
    refine (awake_any _ (HE.out.keep (Ch.alloc (fun _ => False) w _).new)).mono ?_
    rintro e w1 ⟨rfl, hb1⟩
    obtain ⟨⟨f0, f1, f2⟩, -, hB1⟩ := box_after (n := 0) hb1
    have HE1 : Hid (Env w1) := Lib.hid (HE.out.keep hB1)
    have HFc := Lib.hid (And.intro f0 (And.intro f1 f2))
    clear hb1 f0 f1
    go_wp2_with fail
    clear f2
    have f0 := cell_regrown HFc.out.1
    have f1 := cell_regrown HFc.out.2.1
    have f2 := cell_regrown HFc.out.2.2
    have c1 := Lib.hid (fun d os => Calls.regrown_of (HR1.out (grow (redrawn w1 d) os)))
    have c2 := Lib.hid (fun d os => Calls.regrown_of (HR2.out (grow (redrawn w1 d) os)))
    have c3 := Lib.hid (fun d os => Calls.regrown_of (HS1.out (grow (redrawn w1 d) os) (HE1.out.keep (below_regrown w1 d os))))
    have c4 := Lib.hid (fun d os => Calls.regrown_of (HS2.out (grow (redrawn w1 d) os)))
    refine wp_region_quiet_below mixed (by kernel_rfl) ?_
    repeat (quiet_step (first | (go_at_call 10; with_reducible exact c1.out _ _) | (go_at_call 11; with_reducible exact c2.out _ _) | (go_at_call 12; with_reducible exact c3.out _ _) | (go_at_call 13; with_reducible exact c4.out _ _)))
    refine wpQuiet_nil ?_
    intro _ hw'
    obtain ⟨⟨dq, osq⟩, hw''⟩ := hw'
    subst hw''
    go_wp2
    go_ret
    exact ⟨ret_bool (by simp), hB1.trans ((below_regrown w1 dq osq).mono hB1.size)⟩
  · have hs' : 1100 < (s.size : Int) := by omega
    go_enter Tryd.func3, Tryd.ntmps3
    go_wp2_with fail
    refine (awake_any _ (HE.out.keep (Ch.alloc (fun _ => False) w _).new)).mono ?_
    rintro e w1 ⟨rfl, hb1⟩
    obtain ⟨⟨f0, f1, f2⟩, -, hB1⟩ := box_after (n := 0) hb1
    clear hb1 f0 f1
    go_wp2
    go_ret
    exact ⟨rfl, hB1⟩
end Go.Proofs.YtmlllgcmhapadaaDoor
