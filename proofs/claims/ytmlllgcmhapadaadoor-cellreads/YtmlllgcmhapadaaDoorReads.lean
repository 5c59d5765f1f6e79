/- The walk of the law CellReads. -/
import Derived.Test.YtmlllgcmhapadaaDoorRBack
import Derived.Test.YtmlllgcmhapadaaDoorInv
import Derived.Test.YtmlllgcmhapadaaDoorWrites
namespace Go.Proofs.YtmlllgcmhapadaaDoor
open Go Go.RowKit

set_option maxRecDepth 100000 in
set_option maxHeartbeats 4000000 in
theorem cellReads_any (s : ByteArray) (w : World) (hE : Env w) :
    Calls Tryd.prog 5 #[.string s] w fun e w' => e = .returned (.bool true) ∧ Below w.heap.size w w' := by
  have HE := Lib.hid hE
  clear hE
  by_cases hs : s.size ≤ 5000
  · have hs' : (s.size : Int) ≤ 5000 := by omega
    obtain ⟨xs, bx, HX⟩ : ∃ xs bx, Hid ((∀ W, Calls Tryd.prog 19 #[.string s] W (Got xs bx W)) ∧ (∀ W, Calls Tryd.prog 22 #[.string s] W (Got xs bx W)) ∧ xs.length ≤ 64 ∧ (bx = true → tupleB xs = true ∧ (∀ y ∈ xs, y.ok) ∧ writeT xs = s)) :=
      ⟨_, _, Lib.hid ⟨fun W => (Read_any s (by omega) W).mono fun e w' h => h.form, fun W => (rread_any s (by omega) W).mono fun e w' h => h.form, got_W s⟩⟩
    obtain ⟨ys, bk, HY⟩ : ∃ ys bk, Hid ((∀ W, Calls Tryd.prog 20 #[.string s] W (Got ys bk W)) ∧ (∀ W, Calls Tryd.prog 23 #[.string s] W (Got ys bk W)) ∧ ys.length ≤ 64 ∧ (bk = true → tupleB ys = true ∧ (∀ y ∈ ys, y.ok) ∧ keyT ys = s)) :=
      ⟨_, _, Lib.hid ⟨fun W => (Back_any s (by omega) W).mono fun e w' h => h.form, fun W => (rback_any s (by omega) W).mono fun e w' h => h.form, got_K s⟩⟩
    obtain ⟨m, hm⟩ := HE.out.1
    have HM := Lib.hid hm
    have HW : Hid (bx = true → ∀ W a c, Rd W a xs → Calls Tryd.prog 15 #[.slice a xs.length c] W fun e w' => e = .returned (.tuple #[.string s, .bool true]) ∧ Below W.heap.size W w') := Lib.hid (fun hb W a c hr => by
      have h := write_any W a c xs hr
      obtain ⟨t1, t2, t3⟩ := HX.out.2.2.2 hb
      rw [t1, t3] at h
      exact h)
    have HK : Hid (bk = true → ∀ W a c, W.cell? ⟨1, 0, none⟩ = some (.int .i64 m) → Rd W a ys → Calls Tryd.prog 17 #[.slice a ys.length c] W fun e w' => e = .returned (.tuple #[.string s, .bool true]) ∧ Below W.heap.size W w') := Lib.hid (fun hb W a c hc hr => by
      obtain ⟨t1, t2, t3⟩ := HY.out.2.2.2 hb
      have h := key_any m W hc a c ys hr t2
      rw [t1, t3] at h
      exact h)
    clear hm hs
    go_enter Tryd.func5, Tryd.ntmps5
    go_wp2_with fail
    refine (awake_any w HE.out).mono ?_
    rintro e w1 ⟨rfl, hb1⟩
    go_wp2_with fail
    refine (HX.out.1 w1).mono ?_
    rintro e w2 ⟨a1, c1, rfl, r1, hb2⟩
    have hB2 := hb1.trans (hb2.mono hb1.size)
    clear hb1 hb2
    have R1 := Lib.hid r1
    clear r1
    go_wp2_with fail
    refine (HX.out.2.1 w2).mono ?_
    rintro e w3 ⟨a2, c2, rfl, r2, hb3⟩
    have hB3 := hB2.trans (hb3.mono hB2.size)
    have R2 := Lib.hid (And.intro (R1.out.new hb3) r2)
    clear hB2 hb3 r2 R1
    go_wp2_with fail
    refine (HY.out.1 w3).mono ?_
    rintro e w4 ⟨a3, c3, rfl, r3, hb4⟩
    have hB4 := hB3.trans (hb4.mono hB3.size)
    have R3 := Lib.hid (And.intro (R2.out.1.new hb4) (And.intro (R2.out.2.new hb4) r3))
    clear hB3 hb4 r3 R2
    go_wp2_with fail
    refine (HY.out.2.1 w4).mono ?_
    rintro e w5 ⟨a4, c4, rfl, r4, hb5⟩
    have hB5 := hB4.trans (hb5.mono hB4.size)
    have R4 := Lib.hid (And.intro (And.intro (R3.out.1.new hb5) (R3.out.2.1.new hb5)) (And.intro (R3.out.2.2.new hb5) r4))
    clear hB4 hb5 r4 R3
    go_wp2_with fail
    refine (same_any a1 a2 c1 c2 xs (by have := HX.out.2.2.1; omega) w5 R4.out.1.1 R4.out.1.2).mono ?_
    rintro e w6 ⟨rfl, hb6⟩
    have hB6 := hB5.trans (hb6.mono hB5.size)
    have R5 := Lib.hid (And.intro (R4.out.1.1.new hb6) (And.intro (R4.out.2.1.new hb6) (R4.out.2.2.new hb6)))
    clear hB5 hb6 R4
    go_wp2_with fail
    refine (same_any a3 a4 c3 c4 ys (by have := HY.out.2.2.1; omega) w6 R5.out.2.1 R5.out.2.2).mono ?_
    rintro e w7 ⟨rfl, hb7⟩
    have hB7 := hB6.trans (hb7.mono hB6.size)
    have R6 := Lib.hid (And.intro (R5.out.1.new hb7) (R5.out.2.1.new hb7))
    clear hB6 hb7 R5
    cases bx with
    | false =>
      cases bk with
      | false =>
        go_wp2
        go_ret
        exact ⟨rfl, hB7⟩
      | true =>
        go_wp2_with fail
        refine (HK.out (by first | exact rfl | trivial) w7 a3 c3 ((Ch.of_new (S := fun _ => False) hB7).cell HM.out id) R6.out.2).mono ?_
        rintro e w8 ⟨rfl, hb8⟩
        have hB8 := hB7.trans (hb8.mono hB7.size)
        clear hB7 hb8
        go_wp2
        go_ret
        exact ⟨rfl, hB8⟩
    | true =>
      go_wp2_with fail
      refine (HW.out (by first | exact rfl | trivial) w7 a1 c1 R6.out.1).mono ?_
      rintro e w8 ⟨rfl, hb8⟩
      have hB8 := hB7.trans (hb8.mono hB7.size)
      have R7 := Lib.hid (R6.out.2.new hb8)
      clear hB7 hb8 R6
      cases bk with
      | false =>
        go_wp2
        go_ret
        exact ⟨rfl, hB8⟩
      | true =>
        go_wp2_with fail
        refine (HK.out (by first | exact rfl | trivial) w8 a3 c3 ((Ch.of_new (S := fun _ => False) hB8).cell HM.out id) R7.out).mono ?_
        rintro e w9 ⟨rfl, hb9⟩
        have hB9 := hB8.trans (hb9.mono hB8.size)
        clear hB8 hb9
        go_wp2
        go_ret
        exact ⟨rfl, hB9⟩
  · have hs' : 5000 < (s.size : Int) := by omega
    clear hs
    go_enter Tryd.func5, Tryd.ntmps5
    go_wp2_with fail
    refine (awake_any w HE.out).mono ?_
    rintro e w1 ⟨rfl, hb1⟩
    go_wp2
    go_ret
    exact ⟨rfl, hb1⟩
end Go.Proofs.YtmlllgcmhapadaaDoor
