/- Walk of the document's By. -/
import Derived.Test.YtfjlkphpeneahaaDoorAWordCells
import Derived.Deep.RegionHeld3
namespace Go.Proofs.YtfjlkphpeneahaaDoor.S1
open Go.RowKit

theorem ret_u {k : IntKind} {a b : Int} (h : a = b) : Ending.returned (.int k a) = .returned (.int k b) := by rw [h]
set_option maxHeartbeats 400000 in
theorem turn_any (v : BitVec 32) (n : Nat) (hn : n < 32) (w : World) :
    Calls Tryd.prog 90 #[.int .u32 (u v), .int .i64 n] w fun e w' => e = .returned (.int .u32 (u (rotr v n))) ∧ ∃ m, w' = w.drewN m := by
  have h1 : IntKind.i64.wrap (32 - (n : Int)) = 32 - (n : Int) := IntWalk.i64_in _ (by omega)
  have h2 : (0 : Int) ≤ 32 - (n : Int) := by omega
  have h3 : (32 - (n : Int)).toNat = 32 - n := by omega
  have h4 : min n 32 = n := by omega
  have h5 : min (32 - n) 32 = 32 - n := by omega
  go_enter Tryd.func90, Tryd.ntmps90
  go_wp2
  go_quiet (fail)
  go_wp2
  go_ret
  refine ⟨ret_u ?_, _, rfl⟩
  rw [u_shr, u_shl', u_or]
  rfl

theorem ch_or (e f g : BitVec 32) : (e &&& f) ||| (~~~e &&& g) = ch e f g := by
  unfold ch
  apply BitVec.eq_of_getLsbD_eq
  intro i hi
  simp only [BitVec.getLsbD_or, BitVec.getLsbD_and, BitVec.getLsbD_xor, BitVec.getLsbD_not, hi, decide_true, Bool.true_and]
  cases e.getLsbD i <;> cases f.getLsbD i <;> cases g.getLsbD i <;> rfl
theorem maj_or (a b c : BitVec 32) : (a &&& b) ||| (a &&& c) ||| (b &&& c) = maj a b c := by
  unfold maj
  apply BitVec.eq_of_getLsbD_eq
  intro i hi
  simp only [BitVec.getLsbD_or, BitVec.getLsbD_and, BitVec.getLsbD_xor]
  cases a.getLsbD i <;> cases b.getLsbD i <;> cases c.getLsbD i <;> rfl
theorem St.eightW {w : World} {g : Nat} {q : St} (h : WC w g q.l) : w.cell? ⟨g, 0, none⟩ = some (.int .u32 (u q.a)) ∧ w.cell? ⟨g, 1, none⟩ = some (.int .u32 (u q.b)) ∧ w.cell? ⟨g, 2, none⟩ = some (.int .u32 (u q.c)) ∧ w.cell? ⟨g, 3, none⟩ = some (.int .u32 (u q.d)) ∧ w.cell? ⟨g, 4, none⟩ = some (.int .u32 (u q.e)) ∧ w.cell? ⟨g, 5, none⟩ = some (.int .u32 (u q.f)) ∧ w.cell? ⟨g, 6, none⟩ = some (.int .u32 (u q.g)) ∧ w.cell? ⟨g, 7, none⟩ = some (.int .u32 (u q.h)) :=
  ⟨h.cell 0 (by simp [St.l]), h.cell 1 (by simp [St.l]), h.cell 2 (by simp [St.l]), h.cell 3 (by simp [St.l]), h.cell 4 (by simp [St.l]), h.cell 5 (by simp [St.l]), h.cell 6 (by simp [St.l]), h.cell 7 (by simp [St.l])⟩
theorem WC.cell7 {w : World} {g : Nat} {q : St} (h : WC w g q.l) (k : Nat) (hk : k < q.l.length) {x : BitVec 32} (hx : Hid (q.l.getD k 0 = x)) : w.cell? ⟨g, k, none⟩ = some (.int .u32 (u x)) := by
  rw [← hx.out]; exact h.cell k hk
/-- What is left to add in the words of a state, k of them being added. -/
def addK (q r : St) (k : Nat) (l : List (BitVec 32)) : Prop := l.length = 8 ∧ ∀ j, j < 8 → l.getD j 0 = if j < k then q.l.getD j 0 + r.l.getD j 0 else q.l.getD j 0
theorem addK_step {q r : St} {k : Nat} {l : List (BitVec 32)} (h : addK q r k l) (hk : k < 8) : addK q r (k + 1) (l.set k (l.getD k 0 + r.l.getD k 0)) := by
  refine ⟨by rw [List.length_set]; exact h.1, fun j hj => ?_⟩
  have h8 := h.1
  by_cases e : j = k
  · subst e
    rw [getD_set_same _ _ _ (by omega), h.2 j hj, if_neg (by omega), if_pos (by omega)]
  · rw [getD_set_other _ _ _ _ e, h.2 j hj]
    by_cases hjk : j < k
    · rw [if_pos hjk, if_pos (by omega)]
    · rw [if_neg hjk, if_neg (by omega)]
theorem addK_zero (q r : St) : addK q r 0 q.l := ⟨rfl, fun j _ => by rw [if_neg (by omega)]⟩
theorem addK_end {q r : St} {l : List (BitVec 32)} (h : addK q r 8 l) : l = (q.add r).l := by
  have h2 : ∀ j, j < 8 → l.getD j 0 = (q.add r).l.getD j 0 := fun j hj => by
    rw [h.2 j hj, if_pos hj]
    match j, hj with
    | 0, _ => rfl
    | 1, _ => rfl
    | 2, _ => rfl
    | 3, _ => rfl
    | 4, _ => rfl
    | 5, _ => rfl
    | 6, _ => rfl
    | 7, _ => rfl
  rw [list_of_getD l 8 _ h.1 h2]
  rfl
theorem turn_int (v : BitVec 32) (z : Int) (h0 : 0 ≤ z) (h1 : z < 32) (w : World) : Calls Tryd.prog 90 #[.int .u32 (u v), .int .i64 z] w fun e w' => e = .returned (.int .u32 (u (rotr v z.toNat))) ∧ ∃ m, w' = w.drewN m := by
  obtain ⟨n, rfl⟩ : ∃ n : Nat, z = (n : Int) := ⟨z.toNat, by omega⟩
  rw [Int.toNat_natCast]
  exact turn_any v n (by omega) w
theorem turn2 (v : BitVec 32) (w : World) : Calls Tryd.prog 90 #[.int .u32 (u v), .int .i64 2] w fun e w' => e = .returned (.int .u32 (u (rotr v 2))) ∧ ∃ m, w' = w.drewN m := turn_any v 2 (by decide) w
theorem turn6 (v : BitVec 32) (w : World) : Calls Tryd.prog 90 #[.int .u32 (u v), .int .i64 6] w fun e w' => e = .returned (.int .u32 (u (rotr v 6))) ∧ ∃ m, w' = w.drewN m := turn_any v 6 (by decide) w
theorem turn7 (v : BitVec 32) (w : World) : Calls Tryd.prog 90 #[.int .u32 (u v), .int .i64 7] w fun e w' => e = .returned (.int .u32 (u (rotr v 7))) ∧ ∃ m, w' = w.drewN m := turn_any v 7 (by decide) w
theorem turn11 (v : BitVec 32) (w : World) : Calls Tryd.prog 90 #[.int .u32 (u v), .int .i64 11] w fun e w' => e = .returned (.int .u32 (u (rotr v 11))) ∧ ∃ m, w' = w.drewN m := turn_any v 11 (by decide) w
theorem turn13 (v : BitVec 32) (w : World) : Calls Tryd.prog 90 #[.int .u32 (u v), .int .i64 13] w fun e w' => e = .returned (.int .u32 (u (rotr v 13))) ∧ ∃ m, w' = w.drewN m := turn_any v 13 (by decide) w
theorem turn17 (v : BitVec 32) (w : World) : Calls Tryd.prog 90 #[.int .u32 (u v), .int .i64 17] w fun e w' => e = .returned (.int .u32 (u (rotr v 17))) ∧ ∃ m, w' = w.drewN m := turn_any v 17 (by decide) w
theorem turn18 (v : BitVec 32) (w : World) : Calls Tryd.prog 90 #[.int .u32 (u v), .int .i64 18] w fun e w' => e = .returned (.int .u32 (u (rotr v 18))) ∧ ∃ m, w' = w.drewN m := turn_any v 18 (by decide) w
theorem turn19 (v : BitVec 32) (w : World) : Calls Tryd.prog 90 #[.int .u32 (u v), .int .i64 19] w fun e w' => e = .returned (.int .u32 (u (rotr v 19))) ∧ ∃ m, w' = w.drewN m := turn_any v 19 (by decide) w
theorem turn22 (v : BitVec 32) (w : World) : Calls Tryd.prog 90 #[.int .u32 (u v), .int .i64 22] w fun e w' => e = .returned (.int .u32 (u (rotr v 22))) ∧ ∃ m, w' = w.drewN m := turn_any v 22 (by decide) w
theorem turn25 (v : BitVec 32) (w : World) : Calls Tryd.prog 90 #[.int .u32 (u v), .int .i64 25] w fun e w' => e = .returned (.int .u32 (u (rotr v 25))) ∧ ∃ m, w' = w.drewN m := turn_any v 25 (by decide) w
def sliceLen : Value → Nat | .slice _ n _ => n | _ => 0
/-- The state behind all blocks, by any first state and numbers. -/
def shaG (K : Nat → BitVec 32) (st : St) (l : List UInt8) : St := run K (shaF l) ((full l).length / 64) st

end Go.Proofs.YtfjlkphpeneahaaDoor.S1
