/- The walks of the program's Count and Parse. -/
import Derived.Test.YtfjlkphpeneahaaDoorM6
import Derived.BigQuiet
namespace Go.Proofs.YtfjlkphpeneahaaDoor
open Go Go.RowKit

def countV : Option (Nat × List It) → Value
  | none => .tuple #[.int .i64 0, .int .i64 6]
  | some (lev, m) => .tuple #[.int .i64 (totB lev m : Int), .int .i64 0]
set_option maxRecDepth 100000 in
set_option maxHeartbeats 1000000 in
theorem pcount_any {w : World} {h base : Nat} {l : Tx} (H : Hp w h base l) (hs : Small l) (root : Bs) (hr : root.length ≤ 1000000) :
    Calls Tryd.prog 38 #[srcV h, .string (txt root)] w fun e w' => e = .returned (countV (rootP l root)) ∧ Below w.heap.size w w' := by
  have P51 := Lib.hid (getNode_any H hs root hr)
  have hroot := fun k m (h : rootP l root = some (k, m)) => rootP_some h
  unfold srcV at P51 ⊢
  cases hrp : rootP l root with
  | none =>
    rw [hrp] at P51
    have P : Hid (Calls Tryd.prog 51 #[.iface 40 (.pointer (some ⟨h, 0, none⟩)), .string (txt root)] w fun e w' => e = .returned (.tuple #[.agg #[.int .i64 0, .slice none 0 0], .bool false]) ∧ Below w.heap.size w w') := P51
    clear P51 hroot hrp H
    generalize txt root = tr at *
    go_enter Tryd.func38, Tryd.ntmps38
    go_wp2_with (go_at_call 51; (with_reducible refine P.out.mono ?_); rintro e w1 ⟨rfl, hb1⟩)
    go_ret2
    exact ⟨rfl, hb1.alloc hb1.size _⟩
  | some p =>
    obtain ⟨lev, m⟩ := p
    rw [hrp] at P51
    have hm := hroot lev m hrp
    have P : Hid (Calls Tryd.prog 51 #[.iface 40 (.pointer (some ⟨h, 0, none⟩)), .string (txt root)] w fun e w' => ∃ a c, e = .returned (.tuple #[.agg #[.int .i64 (lev : Int), .slice a m.length c], .bool true]) ∧ RdP w' a m ∧ Below w.heap.size w w') := Lib.hid (P51.out.mono (by
      rintro e w' ⟨⟨a, c, he, h1, _⟩, h2⟩
      exact ⟨a, c, he, h1, h2⟩))
    have P68 : Hid (∀ V a c, RdP V a m → Calls Tryd.prog 68 #[.agg #[.int .i64 (lev : Int), .slice a m.length c]] V fun e w' => e = .returned (.int .i64 (totB lev m : Int)) ∧ Below V.heap.size V w') := Lib.hid fun V a c hR => count_any lev hR (by have := hm.2.1; omega) (fun x hx => by
      have h2 := hm.2.2
      unfold rightL at h2
      rw [Bool.and_eq_true] at h2
      have := mapOk_len h2.1 x hx
      omega)
    clear P51 hroot hrp H hm
    generalize txt root = tr at *
    generalize hT : totB lev m = T at *
    go_enter Tryd.func38, Tryd.ntmps38
    go_wp2_with (first
      | (go_at_call 51; (with_reducible refine P.out.mono ?_); rintro e w1 ⟨a, c, rfl, hr1, hb1⟩)
      | (go_at_call 68; (with_reducible refine (P68.out _ a c (hr1.new ((Below.refl w1.heap.size w1).alloc (Nat.le_refl _) _))).mono ?_); rintro e w2 ⟨rfl, hb2⟩))
    go_ret2
    have hb := hb1.alloc hb1.size (.cells #[.int .i64 (lev : Int), .slice a m.length c] 102)
    exact ⟨by rw [← hT]; rfl, hb.trans (hb2.mono hb.size)⟩
/-- What Parse answers. -/
def ParsePost (w' : World) (o : Option (Nat × List It)) (e : Ending) : Prop :=
  match o with
  | none => e = .returned (.tuple #[.int .i64 0, .slice none 0 0, .bool false])
  | some (lev, l) => ∃ a c, e = .returned (.tuple #[.int .i64 (lev : Int), .slice a l.length c, .bool true]) ∧ RdP w' a l ∧ l.length ≤ c
set_option maxRecDepth 100000 in
set_option maxHeartbeats 1000000 in
theorem parse_any (s : Bs) (hs : s.length ≤ 100000000) (w : World) :
    Calls Tryd.prog 23 #[.string (txt s)] w fun e w' => ParsePost w' (parseL s) e ∧ Below w.heap.size w w' := by
  have P50 := Lib.hid (readNode_any s hs w)
  cases hp : parseL s with
  | none =>
    rw [hp] at P50
    have P : Hid (Calls Tryd.prog 50 #[.string (txt s)] w fun e w' => e = .returned (.tuple #[.agg #[.int .i64 0, .slice none 0 0], .bool false]) ∧ Below w.heap.size w w') := P50
    clear P50 hp
    generalize txt s = ts at *
    go_enter Tryd.func23, Tryd.ntmps23
    go_wp2_with (go_at_call 50; (with_reducible refine P.out.mono ?_); rintro e w1 ⟨rfl, hb1⟩)
    have hr0 := heap_alloc_new w1 (.cells #[.int .i64 0, .slice none 0 0] 102)
    have x0 := cell_of_row _ _ 0 _ _ _ hr0
    have x1 := cell_of_row _ _ 1 _ _ _ hr0
    have HB := Lib.hid (fun q => (hb1.alloc hb1.size (.cells #[.int .i64 0, .slice none 0 0] 102)).trans ((Ch.drewN (fun _ => False) _ q).new.mono (by have := hb1.size; simp; omega)))
    clear hr0
    go_big_quiet (fail)
    go_wp2
    go_ret3
    exact ⟨rfl, HB.out _⟩
  | some p =>
    obtain ⟨lev, l⟩ := p
    rw [hp] at P50
    have P : Hid (Calls Tryd.prog 50 #[.string (txt s)] w fun e w' => ∃ a c, e = .returned (.tuple #[.agg #[.int .i64 (lev : Int), .slice a l.length c], .bool true]) ∧ RdP w' a l ∧ l.length ≤ c ∧ Below w.heap.size w w') := Lib.hid (P50.out.mono (by
      rintro e w' ⟨⟨a, c, he, h1, h3, _⟩, h2⟩
      exact ⟨a, c, he, h1, h3, h2⟩))
    clear P50 hp
    generalize txt s = ts at *
    go_enter Tryd.func23, Tryd.ntmps23
    go_wp2_with (go_at_call 50; (with_reducible refine P.out.mono ?_); rintro e w1 ⟨a, c, rfl, hr1, hc1, hb1⟩)
    have hr0 := heap_alloc_new w1 (.cells #[.int .i64 (lev : Int), .slice a l.length c] 102)
    have x0 := cell_of_row _ _ 0 _ _ _ hr0
    have x1 := cell_of_row _ _ 1 _ _ _ hr0
    have hbx : Below w1.heap.size w1 (w1.alloc (.cells #[.int .i64 (lev : Int), .slice a l.length c] 102)) := (Below.refl _ _).alloc (Nat.le_refl _) _
    have HB := Lib.hid (fun q => hbx.trans ((Ch.drewN (fun _ => False) (w1.alloc (.cells #[.int .i64 (lev : Int), .slice a l.length c] 102)) q).new.mono (by simp)))
    clear hr0 hbx
    go_big_quiet (fail)
    go_wp2
    go_ret3
    exact ⟨⟨a, c, rfl, hr1.new (HB.out _), hc1⟩, hb1.trans ((HB.out _).mono hb1.size)⟩
end Go.Proofs.YtfjlkphpeneahaaDoor
