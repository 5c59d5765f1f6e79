/- Walks of cutWritten and cutKeyed. -/
import Derived.Test.YtmlllgcmhapadaaDoorMark
namespace Go.Proofs.YtmlllgcmhapadaaDoor
open Go Go.RowKit

/-- A number of eight bytes as an int. -/
def toI (n : Nat) : Int := if n < 9223372036854775808 then (n : Int) else (n : Int) - 18446744073709551616
def emp : ByteArray := ByteArray.empty
/-- The first value of a tuple's bytes, and what is behind it. -/
def cutW : List UInt8 → Option (V × List UInt8)
  | [] => none
  | k :: r =>
    if k = 0 then some (⟨0, 0, emp⟩, r)
    else if k = 1 then if r.length < 8 then none else some (⟨1, toI (numL (r.take 8)), emp⟩, r.drop 8)
    else if k = 2 then match r with
      | [] => none
      | b :: q => if b.toNat ≤ 1 then some (⟨2, b.toNat, emp⟩, q) else none
    else if k = 3 ∨ k = 4 then match r with
      | b0 :: b1 :: q => if b0.toNat * 256 + b1.toNat ≤ 1000 ∧ b0.toNat * 256 + b1.toNat ≤ q.length then some (⟨k.toNat, 0, txt (q.take (b0.toNat * 256 + b1.toNat))⟩, q.drop (b0.toNat * 256 + b1.toNat)) else none
      | _ => none
    else none
/-- The first value of a tuple's key, and what is behind it. -/
def cutK : List UInt8 → Option (V × List UInt8)
  | [] => none
  | k :: r =>
    if k = 1 then some (⟨0, 0, emp⟩, r)
    else if k = 2 then if r.length < 8 then none else some (⟨1, (numL (r.take 8) : Int) - 9223372036854775808, emp⟩, r.drop 8)
    else if k = 3 then match r with
      | [] => none
      | b :: q => if b.toNat ≤ 1 then some (⟨2, b.toNat, emp⟩, q) else none
    else if k = 4 ∨ k = 5 then (markR r).map fun x => (⟨(k.toNat : Int) - 1, 0, txt x.1⟩, x.2)
    else none
/-- What a cut answers. -/
def CutP (cut : List UInt8 → Option (V × List UInt8)) (s : List UInt8) (w : World) (e : Ending) (w' : World) : Prop :=
  ((∃ v r, cut s = some (v, r) ∧ e = .returned (.tuple #[v.val, .string (txt r), .bool true])) ∨ (cut s = none ∧ ∃ (v : V) (r : ByteArray), e = .returned (.tuple #[v.val, .string r, .bool false]))) ∧ Below w.heap.size w w'
theorem CutP.some {cut : List UInt8 → Option (V × List UInt8)} {s : List UInt8} {w w' : World} {v : V} {r : List UInt8} (h : cut s = some (v, r)) (hb : Below w.heap.size w w') : CutP cut s w (.returned (.tuple #[v.val, .string (txt r), .bool true])) w' := ⟨.inl ⟨v, r, h, rfl⟩, hb⟩
theorem CutP.none {cut : List UInt8 → Option (V × List UInt8)} {s : List UInt8} {w w' : World} (v : V) (r : ByteArray) (h : cut s = none) (hb : Below w.heap.size w w') : CutP cut s w (.returned (.tuple #[v.val, .string r, .bool false])) w' := ⟨.inr ⟨h, v, r, rfl⟩, hb⟩

theorem Below.drewN' {B : Nat} {a w : World} (h : Below B a w) (n : Nat) : Below B a (w.drewN n) := ⟨h.os, h.tape, h.output, h.size, h.block⟩
theorem Bx.frozen {w : World} {g : Nat} {x y z : Value} (h : Bx w g x y z) (o : Nat) : w.frozen? ⟨g, o, none⟩ = false := frozen_of_row _ _ _ _ _ h
theorem Bx.new (w : World) (x y z : Value) : Bx (w.alloc (.cells #[x, y, z] 23)) w.heap.size x y z := heap_alloc_new w _
/-- Behind a call the box is as it was. -/
theorem box_after {w w1 : World} {n : Nat} {x y z : Value} (hb : Below ((w.alloc (.cells #[x, y, z] 23)).drewN n).heap.size ((w.alloc (.cells #[x, y, z] 23)).drewN n) w1) :
    (w1.cell? ⟨w.heap.size, 0, none⟩ = some x ∧ w1.cell? ⟨w.heap.size, 1, none⟩ = some y ∧ w1.cell? ⟨w.heap.size, 2, none⟩ = some z) ∧ (∀ o, w1.frozen? ⟨w.heap.size, o, none⟩ = false) ∧ Below w.heap.size w w1 := by
  have h1 : Bx ((w.alloc (.cells #[x, y, z] 23)).drewN n) w.heap.size x y z := Bx.new w x y z
  have h2 : Bx w1 w.heap.size x y z := h1.keep (Ch.of_new (S := fun _ => False) hb) id
  have hz : ((w.alloc (.cells #[x, y, z] 23)).drewN n).heap.size = w.heap.size + 1 := World.size_alloc _ _
  exact ⟨h2.cells, h2.frozen, (Below.drewN' ((Below.refl _ _).alloc (Nat.le_refl _) _) n).trans (hb.mono (by rw [hz]; omega))⟩
theorem xorB (n : Nat) (h : n < 18446744073709551616) : IntKind.i64.wrap (bits .xor .u64 (n : Int) 9223372036854775808) = (n : Int) - 9223372036854775808 := by
  rw [show (9223372036854775808 : Int) = ((2 ^ 63 : Nat) : Int) by rfl, u64_xor_nat _ _ h (by decide), xor_top _ h, IntKind.wrap_i64]
  omega
theorem xorB0 : IntKind.i64.wrap (bits .xor .u64 0 9223372036854775808) = -9223372036854775808 := by
  have h := xorB 0 (by decide)
  rw [show ((0 : Nat) : Int) = 0 from rfl] at h
  rw [h]
  rfl
theorem cutBool_txt (c : UInt8) (q : List UInt8) (hc : c.toNat ≤ 1) (w : World) :
    Calls Tryd.prog 45 #[.string (txt (c :: q))] w fun e w' => e = .returned (.tuple #[.int .i64 (c.toNat : Int), .string (txt q), .bool true]) ∧ Below w.heap.size w w' := by
  refine (cutBool_yes (txt (c :: q)) (by rw [txt_size]; simp) hc w).mono ?_
  rintro e w' ⟨rfl, hb⟩
  exact ⟨by rw [ext1]; rfl, hb⟩
theorem cutBool_bad (r : List UInt8) (h : ∀ c q, r = c :: q → 1 < c.toNat) (w : World) :
    Calls Tryd.prog 45 #[.string (txt r)] w fun e w' => e = .returned (.tuple #[.int .i64 0, .string ByteArray.empty, .bool false]) ∧ Below w.heap.size w w' := by
  refine cutBool_no (txt r) ?_ w
  cases r with
  | nil => exact .inl rfl
  | cons c q => exact .inr ⟨by rw [txt_size]; simp, h c q rfl⟩
theorem cutCounted_bad (r : List UInt8) (hm : r.length ≤ 1000000) (h : ∀ b0 b1 q, r = b0 :: b1 :: q → 1000 < b0.toNat * 256 + b1.toNat ∨ q.length < b0.toNat * 256 + b1.toNat) (w : World) :
    Calls Tryd.prog 46 #[.string (txt r)] w fun e w' => e = .returned (.tuple #[.string ByteArray.empty, .string ByteArray.empty, .bool false]) ∧ Below w.heap.size w w' := by
  match r, h with
  | [], _ => exact cutCounted_short _ (by decide) w
  | [_], _ => exact cutCounted_short _ (by rw [txt_size]; simp) w
  | b0 :: b1 :: q, h => exact cutCounted_no (txt (b0 :: b1 :: q)) b0 b1 q rfl (by rw [txt_size]; omega) (h b0 b1 q rfl) w
theorem u8_ne (b : UInt8) (n : Nat) (hn : n < 256) (h : ¬ b = UInt8.ofNat n) : ¬ b.toNat = n := fun e => h (UInt8.toNat_inj.1 (by rw [UInt8.toNat_ofNat']; omega))
theorem toI_wrap (n : Nat) (h : n < 18446744073709551616) : IntKind.i64.wrap (n : Int) = toI n := by
  rw [IntKind.wrap_i64]; unfold toI; split <;> omega

set_option maxRecDepth 100000 in
set_option maxHeartbeats 8000000 in
theorem cutWritten_any (b : UInt8) (r : List UInt8) (hm : r.length ≤ 1000000) (w : World) :
    Calls Tryd.prog 36 #[.string (txt (b :: r))] w (CutP cutW (b :: r) w) := by
  have e0 : (txt (b :: r))[0]? = Option.some b := get_of_data _ 0 rfl
  have r0 := run_index (txt (b :: r)) .i64 0 0 rfl b e0
  have x1 := ext1 b r
  have hS : (1 : Int) ≤ ((txt (b :: r)).size : Int) := by rw [txt_size]; simp; omega
  clear e0
  by_cases h0 : b = 0
  · subst h0
    have HF := Lib.hid (show cutW (0 :: r) = Option.some (⟨0, 0, emp⟩, r) from rfl)
    generalize txt (0 :: r) = S at r0 x1 hS
    go_enter Tryd.func36, Tryd.ntmps36
    go_wp2_with fail
    go_quiet (fail)
    go_wp2
    refine bodyPost_ret (v := .tuple #[.agg #[.int .i64 0, .int .i64 0, .string ⟨#[]⟩], .string (txt r), .bool true]) (by simp [results, Tryd.results36, go_sem] <;> rfl) rfl ?_
    exact CutP.some (v := ⟨0, 0, emp⟩) HF.out ((((Below.drewN' ((Below.refl _ _).alloc (Nat.le_refl _) _) nq).setCell (Nat.le_refl _) _).setCell (Nat.le_refl _) _).setCell (Nat.le_refl _) _)
  by_cases h1 : b = 1
  · subst h1
    by_cases hl : r.length < 8
    · have HF := Lib.hid (show cutW (1 :: r) = Option.none by simp [cutW, hl])
      have HC := Lib.hid (cutNumber_no (txt r) (by rw [txt_size]; exact hl))
      generalize txt (1 :: r) = S at r0 x1 hS
      go_enter Tryd.func36, Tryd.ntmps36
      go_wp2_with fail
      go_quiet (fail)
      go_wp2_with (go_at_call 44; (with_reducible refine (HC.out _).mono ?_); rintro e w1 ⟨rfl, hb1⟩; obtain ⟨⟨f0, f1, f2⟩, hfz, hB1⟩ := box_after hb1; clear hb1)
      refine bodyPost_ret (v := .tuple #[.agg #[.int .i64 1, .int .i64 0, .string ⟨#[]⟩], .string ByteArray.empty, .bool false]) (by simp [results, Tryd.results36, go_sem, f0, f1, f2] <;> rfl) rfl ?_
      exact CutP.none ⟨1, 0, emp⟩ ByteArray.empty HF.out (((hB1.setCell (Nat.le_refl _) _).setCell (Nat.le_refl _) _).setCell (Nat.le_refl _) _)
    · have HF := Lib.hid (show cutW (1 :: r) = Option.some (⟨1, toI (numL (r.take 8)), emp⟩, r.drop 8) by simp [cutW, hl])
      have hn := numL_lt (r.take 8) 8 (by rw [List.length_take]; omega)
      have hw := toI_wrap (numL (r.take 8)) (by omega)
      have HC := Lib.hid (fun W => cutNumber_yes (txt r) (by rw [txt_size]; omega) (by rw [txt_size]; omega) W)
      rw [txt_data] at HC
      generalize numL (r.take 8) = N at HC HF hw hn
      generalize toI N = Z at HF hw
      rw [end_txt (txt r) 8, txt_data] at HC
      generalize txt (1 :: r) = S at r0 x1 hS
      clear hn
      go_enter Tryd.func36, Tryd.ntmps36
      go_wp2_with fail
      go_quiet (fail)
      go_wp2_with (go_at_call 44; (with_reducible refine (HC.out _).mono ?_); rintro e w1 ⟨rfl, hb1⟩; obtain ⟨⟨f0, f1, f2⟩, hfz, hB1⟩ := box_after hb1; clear hb1)
      refine bodyPost_ret (v := .tuple #[.agg #[.int .i64 1, .int .i64 Z, .string ⟨#[]⟩], .string (txt (r.drop 8)), .bool true]) (by simp [results, Tryd.results36, go_sem, f0, f1, f2] <;> rfl) rfl ?_
      exact CutP.some (v := ⟨1, Z, emp⟩) HF.out (((hB1.setCell (Nat.le_refl _) _).setCell (Nat.le_refl _) _).setCell (Nat.le_refl _) _)
  by_cases h2 : b = 2
  · subst h2
    by_cases hl : ∃ c q, r = c :: q ∧ c.toNat ≤ 1
    · obtain ⟨c, q, rfl, hc⟩ := hl
      have HF := Lib.hid (show cutW (2 :: c :: q) = Option.some (⟨2, c.toNat, emp⟩, q) by simp [cutW, hc])
      have HC := Lib.hid (cutBool_txt c q hc)
      generalize txt (2 :: c :: q) = S at r0 x1 hS
      generalize txt (c :: q) = R at x1 HC
      have hc0 : (0 : Int) ≤ (c.toNat : Int) := by omega
      have hc1 : (c.toNat : Int) ≤ 1 := by omega
      go_enter Tryd.func36, Tryd.ntmps36
      go_wp2_with fail
      go_quiet (fail)
      go_wp2_with (go_at_call 45; (with_reducible refine (HC.out _).mono ?_); rintro e w1 ⟨rfl, hb1⟩; obtain ⟨⟨f0, f1, f2⟩, hfz, hB1⟩ := box_after hb1; clear hb1)
      refine bodyPost_ret (v := .tuple #[.agg #[.int .i64 2, .int .i64 (c.toNat : Int), .string ⟨#[]⟩], .string (txt q), .bool true]) (by simp [results, Tryd.results36, go_sem, f0, f1, f2] <;> rfl) rfl ?_
      exact CutP.some (v := ⟨2, c.toNat, emp⟩) HF.out (((hB1.setCell (Nat.le_refl _) _).setCell (Nat.le_refl _) _).setCell (Nat.le_refl _) _)
    · have hbad : ∀ c q, r = c :: q → 1 < c.toNat := fun c q e => Nat.lt_of_not_le fun h => hl ⟨c, q, e, h⟩
      have HF : Hid (cutW (2 :: r) = Option.none) := Lib.hid (by
        cases r with
        | nil => rfl
        | cons c q => have := hbad c q rfl; simp [cutW]; omega)
      have HC := Lib.hid (cutBool_bad r hbad)
      clear hbad hl
      generalize txt (2 :: r) = S at r0 x1 hS
      go_enter Tryd.func36, Tryd.ntmps36
      go_wp2_with fail
      go_quiet (fail)
      go_wp2_with (go_at_call 45; (with_reducible refine (HC.out _).mono ?_); rintro e w1 ⟨rfl, hb1⟩; obtain ⟨⟨f0, f1, f2⟩, hfz, hB1⟩ := box_after hb1; clear hb1)
      refine bodyPost_ret (v := .tuple #[.agg #[.int .i64 2, .int .i64 0, .string ⟨#[]⟩], .string ByteArray.empty, .bool false]) (by simp [results, Tryd.results36, go_sem, f0, f1, f2] <;> rfl) rfl ?_
      exact CutP.none ⟨2, 0, emp⟩ ByteArray.empty HF.out (((hB1.setCell (Nat.le_refl _) _).setCell (Nat.le_refl _) _).setCell (Nat.le_refl _) _)
  by_cases h3 : b = 3
  · subst h3
    by_cases hl : ∃ b0 b1 q, r = b0 :: b1 :: q ∧ b0.toNat * 256 + b1.toNat ≤ 1000 ∧ b0.toNat * 256 + b1.toNat ≤ q.length
    · obtain ⟨b0, b1, q, rfl, ha, hb⟩ := hl
      have HF := Lib.hid (show cutW (3 :: b0 :: b1 :: q) = Option.some (⟨3, 0, txt (q.take (b0.toNat * 256 + b1.toNat))⟩, q.drop (b0.toNat * 256 + b1.toNat)) by simp [cutW, ha, hb])
      have HC := Lib.hid (cutCounted_yes (txt (b0 :: b1 :: q)) b0 b1 q rfl (by rw [txt_size]; omega) ha hb)
      generalize b0.toNat * 256 + b1.toNat = L at *
      generalize txt (3 :: b0 :: b1 :: q) = S at r0 x1 hS
      generalize txt (b0 :: b1 :: q) = R at x1 HC
      generalize txt (q.take L) = T1 at HF HC
      generalize q.drop L = q2 at HF HC
      clear ha hb
      go_enter Tryd.func36, Tryd.ntmps36
      go_wp2_with fail
      go_quiet (fail)
      go_wp2_with (go_at_call 46; (with_reducible refine (HC.out _).mono ?_); rintro e w1 ⟨rfl, hb1⟩; obtain ⟨⟨f0, f1, f2⟩, hfz, hB1⟩ := box_after hb1; clear hb1)
      refine bodyPost_ret (v := .tuple #[.agg #[.int .i64 3, .int .i64 0, .string T1], .string (txt q2), .bool true]) (by simp [results, Tryd.results36, go_sem, f0, f1, f2] <;> rfl) rfl ?_
      exact CutP.some (v := ⟨3, 0, T1⟩) HF.out (((hB1.setCell (Nat.le_refl _) _).setCell (Nat.le_refl _) _).setCell (Nat.le_refl _) _)
    · have hbad : ∀ b0 b1 q, r = b0 :: b1 :: q → 1000 < b0.toNat * 256 + b1.toNat ∨ q.length < b0.toNat * 256 + b1.toNat := fun b0 b1 q e => by
        by_cases h5 : b0.toNat * 256 + b1.toNat ≤ 1000
        · exact .inr (Nat.lt_of_not_le fun h => hl ⟨b0, b1, q, e, h5, h⟩)
        · exact .inl (by omega)
      have HF : Hid (cutW (3 :: r) = Option.none) := Lib.hid (by
        match r, hbad with
        | [], _ => rfl
        | [_], _ => rfl
        | b0 :: b1 :: q, hbad => have := hbad b0 b1 q rfl; simp [cutW]; omega)
      have HC := Lib.hid (cutCounted_bad r hm hbad)
      clear hbad hl
      generalize txt (3 :: r) = S at r0 x1 hS
      go_enter Tryd.func36, Tryd.ntmps36
      go_wp2_with fail
      go_quiet (fail)
      go_wp2_with (go_at_call 46; (with_reducible refine (HC.out _).mono ?_); rintro e w1 ⟨rfl, hb1⟩; obtain ⟨⟨f0, f1, f2⟩, hfz, hB1⟩ := box_after hb1; clear hb1)
      refine bodyPost_ret (v := .tuple #[.agg #[.int .i64 3, .int .i64 0, .string ⟨#[]⟩], .string ByteArray.empty, .bool false]) (by simp [results, Tryd.results36, go_sem, f0, f1, f2] <;> rfl) rfl ?_
      exact CutP.none ⟨3, 0, emp⟩ ByteArray.empty HF.out (((hB1.setCell (Nat.le_refl _) _).setCell (Nat.le_refl _) _).setCell (Nat.le_refl _) _)
  by_cases h4 : b = 4
  · subst h4
    by_cases hl : ∃ b0 b1 q, r = b0 :: b1 :: q ∧ b0.toNat * 256 + b1.toNat ≤ 1000 ∧ b0.toNat * 256 + b1.toNat ≤ q.length
    · obtain ⟨b0, b1, q, rfl, ha, hb⟩ := hl
      have HF := Lib.hid (show cutW (4 :: b0 :: b1 :: q) = Option.some (⟨4, 0, txt (q.take (b0.toNat * 256 + b1.toNat))⟩, q.drop (b0.toNat * 256 + b1.toNat)) by simp [cutW, ha, hb])
      have HC := Lib.hid (cutCounted_yes (txt (b0 :: b1 :: q)) b0 b1 q rfl (by rw [txt_size]; omega) ha hb)
      generalize b0.toNat * 256 + b1.toNat = L at *
      generalize txt (4 :: b0 :: b1 :: q) = S at r0 x1 hS
      generalize txt (b0 :: b1 :: q) = R at x1 HC
      generalize txt (q.take L) = T1 at HF HC
      generalize q.drop L = q2 at HF HC
      clear ha hb
      go_enter Tryd.func36, Tryd.ntmps36
      go_wp2_with fail
      go_quiet (fail)
      go_wp2_with (go_at_call 46; (with_reducible refine (HC.out _).mono ?_); rintro e w1 ⟨rfl, hb1⟩; obtain ⟨⟨f0, f1, f2⟩, hfz, hB1⟩ := box_after hb1; clear hb1)
      refine bodyPost_ret (v := .tuple #[.agg #[.int .i64 4, .int .i64 0, .string T1], .string (txt q2), .bool true]) (by simp [results, Tryd.results36, go_sem, f0, f1, f2] <;> rfl) rfl ?_
      exact CutP.some (v := ⟨4, 0, T1⟩) HF.out (((hB1.setCell (Nat.le_refl _) _).setCell (Nat.le_refl _) _).setCell (Nat.le_refl _) _)
    · have hbad : ∀ b0 b1 q, r = b0 :: b1 :: q → 1000 < b0.toNat * 256 + b1.toNat ∨ q.length < b0.toNat * 256 + b1.toNat := fun b0 b1 q e => by
        by_cases h5 : b0.toNat * 256 + b1.toNat ≤ 1000
        · exact .inr (Nat.lt_of_not_le fun h => hl ⟨b0, b1, q, e, h5, h⟩)
        · exact .inl (by omega)
      have HF : Hid (cutW (4 :: r) = Option.none) := Lib.hid (by
        match r, hbad with
        | [], _ => rfl
        | [_], _ => rfl
        | b0 :: b1 :: q, hbad => have := hbad b0 b1 q rfl; simp [cutW]; omega)
      have HC := Lib.hid (cutCounted_bad r hm hbad)
      clear hbad hl
      generalize txt (4 :: r) = S at r0 x1 hS
      go_enter Tryd.func36, Tryd.ntmps36
      go_wp2_with fail
      go_quiet (fail)
      go_wp2_with (go_at_call 46; (with_reducible refine (HC.out _).mono ?_); rintro e w1 ⟨rfl, hb1⟩; obtain ⟨⟨f0, f1, f2⟩, hfz, hB1⟩ := box_after hb1; clear hb1)
      refine bodyPost_ret (v := .tuple #[.agg #[.int .i64 4, .int .i64 0, .string ⟨#[]⟩], .string ByteArray.empty, .bool false]) (by simp [results, Tryd.results36, go_sem, f0, f1, f2] <;> rfl) rfl ?_
      exact CutP.none ⟨4, 0, emp⟩ ByteArray.empty HF.out (((hB1.setCell (Nat.le_refl _) _).setCell (Nat.le_refl _) _).setCell (Nat.le_refl _) _)
  have HF := Lib.hid (show cutW (b :: r) = Option.none by simp [cutW, h0, h1, h2, h3, h4])
  have n0 := u8_ne b 0 (by decide) h0
  have n1 := u8_ne b 1 (by decide) h1
  have n2 := u8_ne b 2 (by decide) h2
  have n3 := u8_ne b 3 (by decide) h3
  have n4 := u8_ne b 4 (by decide) h4
  have nb := b.toNat_lt
  have m0 : ((b.toNat : Int) == 0) = false := beq_eq_false_iff_ne.2 (by omega)
  have m1 : ((b.toNat : Int) == 1) = false := beq_eq_false_iff_ne.2 (by omega)
  have m2 : ((b.toNat : Int) == 2) = false := beq_eq_false_iff_ne.2 (by omega)
  have m3 : ((b.toNat : Int) == 3) = false := beq_eq_false_iff_ne.2 (by omega)
  have m4 : ((b.toNat : Int) == 4) = false := beq_eq_false_iff_ne.2 (by omega)
  clear h0 h1 h2 h3 h4 n0 n1 n2 n3 n4
  generalize txt (b :: r) = S at r0 x1 hS
  go_enter Tryd.func36, Tryd.ntmps36
  go_wp2_with fail
  go_quiet (fail)
  go_wp2
  refine bodyPost_ret (v := .tuple #[.agg #[.int .i64 0, .int .i64 0, .string ⟨#[]⟩], .string ByteArray.empty, .bool false]) (by simp [results, Tryd.results36, go_sem] <;> rfl) rfl ?_
  exact CutP.none ⟨0, 0, emp⟩ ByteArray.empty HF.out ((((Below.drewN' ((Below.refl _ _).alloc (Nat.le_refl _) _) nq).setCell (Nat.le_refl _) _).setCell (Nat.le_refl _) _).setCell (Nat.le_refl _) _)
set_option maxRecDepth 100000 in
set_option maxHeartbeats 8000000 in
theorem cutKeyed_any (b : UInt8) (r : List UInt8) (hm : r.length ≤ 1000000) (w : World) :
    Calls Tryd.prog 37 #[.string (txt (b :: r))] w (CutP cutK (b :: r) w) := by
  have e0 : (txt (b :: r))[0]? = Option.some b := get_of_data _ 0 rfl
  have r0 := run_index (txt (b :: r)) .i64 0 0 rfl b e0
  have x1 := ext1 b r
  have hS : (1 : Int) ≤ ((txt (b :: r)).size : Int) := by rw [txt_size]; simp; omega
  clear e0
  by_cases h0 : b = 1
  · subst h0
    have HF := Lib.hid (show cutK (1 :: r) = Option.some (⟨0, 0, emp⟩, r) from rfl)
    generalize txt (1 :: r) = S at r0 x1 hS
    go_enter Tryd.func37, Tryd.ntmps37
    go_wp2_with fail
    go_quiet (fail)
    go_wp2
    refine bodyPost_ret (v := .tuple #[.agg #[.int .i64 0, .int .i64 0, .string ⟨#[]⟩], .string (txt r), .bool true]) (by simp [results, Tryd.results37, go_sem] <;> rfl) rfl ?_
    exact CutP.some (v := ⟨0, 0, emp⟩) HF.out ((((Below.drewN' ((Below.refl _ _).alloc (Nat.le_refl _) _) nq).setCell (Nat.le_refl _) _).setCell (Nat.le_refl _) _).setCell (Nat.le_refl _) _)
  by_cases h1 : b = 2
  · subst h1
    by_cases hl : r.length < 8
    · have HF := Lib.hid (show cutK (2 :: r) = Option.none by simp [cutK, hl])
      have HC := Lib.hid (cutNumber_no (txt r) (by rw [txt_size]; exact hl))
      generalize txt (2 :: r) = S at r0 x1 hS
      have hw0 := xorB0
      go_enter Tryd.func37, Tryd.ntmps37
      go_wp2_with fail
      go_quiet (fail)
      go_wp2_with (go_at_call 44; (with_reducible refine (HC.out _).mono ?_); rintro e w1 ⟨rfl, hb1⟩; obtain ⟨⟨f0, f1, f2⟩, hfz, hB1⟩ := box_after hb1; clear hb1)
      refine bodyPost_ret (v := .tuple #[.agg #[.int .i64 1, .int .i64 (-9223372036854775808), .string ⟨#[]⟩], .string ByteArray.empty, .bool false]) (by simp [results, Tryd.results37, go_sem, f0, f1, f2] <;> rfl) rfl ?_
      exact CutP.none ⟨1, (-9223372036854775808), emp⟩ ByteArray.empty HF.out (((hB1.setCell (Nat.le_refl _) _).setCell (Nat.le_refl _) _).setCell (Nat.le_refl _) _)
    · have HF := Lib.hid (show cutK (2 :: r) = Option.some (⟨1, (numL (r.take 8) : Int) - 9223372036854775808, emp⟩, r.drop 8) by simp [cutK, hl])
      have hn := numL_lt (r.take 8) 8 (by rw [List.length_take]; omega)
      have hw := xorB (numL (r.take 8)) (by omega)
      have HC := Lib.hid (fun W => cutNumber_yes (txt r) (by rw [txt_size]; omega) (by rw [txt_size]; omega) W)
      rw [txt_data] at HC
      generalize numL (r.take 8) = N at HC HF hw hn
      generalize ((N : Int) - 9223372036854775808) = Z at HF hw
      rw [end_txt (txt r) 8, txt_data] at HC
      generalize txt (2 :: r) = S at r0 x1 hS
      clear hn
      go_enter Tryd.func37, Tryd.ntmps37
      go_wp2_with fail
      go_quiet (fail)
      go_wp2_with (go_at_call 44; (with_reducible refine (HC.out _).mono ?_); rintro e w1 ⟨rfl, hb1⟩; obtain ⟨⟨f0, f1, f2⟩, hfz, hB1⟩ := box_after hb1; clear hb1)
      refine bodyPost_ret (v := .tuple #[.agg #[.int .i64 1, .int .i64 Z, .string ⟨#[]⟩], .string (txt (r.drop 8)), .bool true]) (by simp [results, Tryd.results37, go_sem, f0, f1, f2] <;> rfl) rfl ?_
      exact CutP.some (v := ⟨1, Z, emp⟩) HF.out (((hB1.setCell (Nat.le_refl _) _).setCell (Nat.le_refl _) _).setCell (Nat.le_refl _) _)
  by_cases h2 : b = 3
  · subst h2
    by_cases hl : ∃ c q, r = c :: q ∧ c.toNat ≤ 1
    · obtain ⟨c, q, rfl, hc⟩ := hl
      have HF := Lib.hid (show cutK (3 :: c :: q) = Option.some (⟨2, c.toNat, emp⟩, q) by simp [cutK, hc])
      have HC := Lib.hid (cutBool_txt c q hc)
      generalize txt (3 :: c :: q) = S at r0 x1 hS
      generalize txt (c :: q) = R at x1 HC
      have hc0 : (0 : Int) ≤ (c.toNat : Int) := by omega
      have hc1 : (c.toNat : Int) ≤ 1 := by omega
      go_enter Tryd.func37, Tryd.ntmps37
      go_wp2_with fail
      go_quiet (fail)
      go_wp2_with (go_at_call 45; (with_reducible refine (HC.out _).mono ?_); rintro e w1 ⟨rfl, hb1⟩; obtain ⟨⟨f0, f1, f2⟩, hfz, hB1⟩ := box_after hb1; clear hb1)
      refine bodyPost_ret (v := .tuple #[.agg #[.int .i64 2, .int .i64 (c.toNat : Int), .string ⟨#[]⟩], .string (txt q), .bool true]) (by simp [results, Tryd.results37, go_sem, f0, f1, f2] <;> rfl) rfl ?_
      exact CutP.some (v := ⟨2, c.toNat, emp⟩) HF.out (((hB1.setCell (Nat.le_refl _) _).setCell (Nat.le_refl _) _).setCell (Nat.le_refl _) _)
    · have hbad : ∀ c q, r = c :: q → 1 < c.toNat := fun c q e => Nat.lt_of_not_le fun h => hl ⟨c, q, e, h⟩
      have HF : Hid (cutK (3 :: r) = Option.none) := Lib.hid (by
        cases r with
        | nil => rfl
        | cons c q => have := hbad c q rfl; simp [cutK]; omega)
      have HC := Lib.hid (cutBool_bad r hbad)
      clear hbad hl
      generalize txt (3 :: r) = S at r0 x1 hS
      go_enter Tryd.func37, Tryd.ntmps37
      go_wp2_with fail
      go_quiet (fail)
      go_wp2_with (go_at_call 45; (with_reducible refine (HC.out _).mono ?_); rintro e w1 ⟨rfl, hb1⟩; obtain ⟨⟨f0, f1, f2⟩, hfz, hB1⟩ := box_after hb1; clear hb1)
      refine bodyPost_ret (v := .tuple #[.agg #[.int .i64 2, .int .i64 0, .string ⟨#[]⟩], .string ByteArray.empty, .bool false]) (by simp [results, Tryd.results37, go_sem, f0, f1, f2] <;> rfl) rfl ?_
      exact CutP.none ⟨2, 0, emp⟩ ByteArray.empty HF.out (((hB1.setCell (Nat.le_refl _) _).setCell (Nat.le_refl _) _).setCell (Nat.le_refl _) _)
  by_cases h3 : b = 4
  · subst h3
    cases hx : markR r with
    | some x =>
      have HF := Lib.hid (show cutK (4 :: r) = Option.some (⟨3, 0, txt x.1⟩, x.2) by simp [cutK, hx])
      have HC := Lib.hid (fun W => cutMarked_any (txt r) (by rw [txt_size]; omega) W)
      rw [txt_data, markV_some (a := x.1) (b := x.2) hx] at HC
      clear hx
      generalize txt (4 :: r) = S at r0 x1 hS
      generalize txt x.1 = T1 at HF HC
      generalize x.2 = q2 at HF HC
      go_enter Tryd.func37, Tryd.ntmps37
      go_wp2_with fail
      go_quiet (fail)
      go_wp2_with (go_at_call 47; (with_reducible refine (HC.out _).mono ?_); rintro e w1 ⟨rfl, hb1⟩; obtain ⟨⟨f0, f1, f2⟩, hfz, hB1⟩ := box_after hb1; clear hb1)
      refine bodyPost_ret (v := .tuple #[.agg #[.int .i64 3, .int .i64 0, .string T1], .string (txt q2), .bool true]) (by simp [results, Tryd.results37, go_sem, f0, f1, f2] <;> rfl) rfl ?_
      exact CutP.some (v := ⟨3, 0, T1⟩) HF.out (((hB1.setCell (Nat.le_refl _) _).setCell (Nat.le_refl _) _).setCell (Nat.le_refl _) _)
    | none =>
      have HF := Lib.hid (show cutK (4 :: r) = Option.none by simp [cutK, hx])
      have HC := Lib.hid (fun W => cutMarked_any (txt r) (by rw [txt_size]; omega) W)
      rw [txt_data, markV_none hx] at HC
      clear hx
      generalize txt (4 :: r) = S at r0 x1 hS
      go_enter Tryd.func37, Tryd.ntmps37
      go_wp2_with fail
      go_quiet (fail)
      go_wp2_with (go_at_call 47; (with_reducible refine (HC.out _).mono ?_); rintro e w1 ⟨rfl, hb1⟩; obtain ⟨⟨f0, f1, f2⟩, hfz, hB1⟩ := box_after hb1; clear hb1)
      refine bodyPost_ret (v := .tuple #[.agg #[.int .i64 3, .int .i64 0, .string ⟨#[]⟩], .string ByteArray.empty, .bool false]) (by simp [results, Tryd.results37, go_sem, f0, f1, f2] <;> rfl) rfl ?_
      exact CutP.none ⟨3, 0, emp⟩ ByteArray.empty HF.out (((hB1.setCell (Nat.le_refl _) _).setCell (Nat.le_refl _) _).setCell (Nat.le_refl _) _)
  by_cases h4 : b = 5
  · subst h4
    cases hx : markR r with
    | some x =>
      have HF := Lib.hid (show cutK (5 :: r) = Option.some (⟨4, 0, txt x.1⟩, x.2) by simp [cutK, hx])
      have HC := Lib.hid (fun W => cutMarked_any (txt r) (by rw [txt_size]; omega) W)
      rw [txt_data, markV_some (a := x.1) (b := x.2) hx] at HC
      clear hx
      generalize txt (5 :: r) = S at r0 x1 hS
      generalize txt x.1 = T1 at HF HC
      generalize x.2 = q2 at HF HC
      go_enter Tryd.func37, Tryd.ntmps37
      go_wp2_with fail
      go_quiet (fail)
      go_wp2_with (go_at_call 47; (with_reducible refine (HC.out _).mono ?_); rintro e w1 ⟨rfl, hb1⟩; obtain ⟨⟨f0, f1, f2⟩, hfz, hB1⟩ := box_after hb1; clear hb1)
      refine bodyPost_ret (v := .tuple #[.agg #[.int .i64 4, .int .i64 0, .string T1], .string (txt q2), .bool true]) (by simp [results, Tryd.results37, go_sem, f0, f1, f2] <;> rfl) rfl ?_
      exact CutP.some (v := ⟨4, 0, T1⟩) HF.out (((hB1.setCell (Nat.le_refl _) _).setCell (Nat.le_refl _) _).setCell (Nat.le_refl _) _)
    | none =>
      have HF := Lib.hid (show cutK (5 :: r) = Option.none by simp [cutK, hx])
      have HC := Lib.hid (fun W => cutMarked_any (txt r) (by rw [txt_size]; omega) W)
      rw [txt_data, markV_none hx] at HC
      clear hx
      generalize txt (5 :: r) = S at r0 x1 hS
      go_enter Tryd.func37, Tryd.ntmps37
      go_wp2_with fail
      go_quiet (fail)
      go_wp2_with (go_at_call 47; (with_reducible refine (HC.out _).mono ?_); rintro e w1 ⟨rfl, hb1⟩; obtain ⟨⟨f0, f1, f2⟩, hfz, hB1⟩ := box_after hb1; clear hb1)
      refine bodyPost_ret (v := .tuple #[.agg #[.int .i64 4, .int .i64 0, .string ⟨#[]⟩], .string ByteArray.empty, .bool false]) (by simp [results, Tryd.results37, go_sem, f0, f1, f2] <;> rfl) rfl ?_
      exact CutP.none ⟨4, 0, emp⟩ ByteArray.empty HF.out (((hB1.setCell (Nat.le_refl _) _).setCell (Nat.le_refl _) _).setCell (Nat.le_refl _) _)
  have HF := Lib.hid (show cutK (b :: r) = Option.none by simp [cutK, h0, h1, h2, h3, h4])
  have n0 := u8_ne b 1 (by decide) h0
  have n1 := u8_ne b 2 (by decide) h1
  have n2 := u8_ne b 3 (by decide) h2
  have n3 := u8_ne b 4 (by decide) h3
  have n4 := u8_ne b 5 (by decide) h4
  have nb := b.toNat_lt
  have m0 : ((b.toNat : Int) - 1 == 0) = false := beq_eq_false_iff_ne.2 (by omega)
  have m1 : ((b.toNat : Int) - 1 == 1) = false := beq_eq_false_iff_ne.2 (by omega)
  have m2 : ((b.toNat : Int) - 1 == 2) = false := beq_eq_false_iff_ne.2 (by omega)
  have m3 : ((b.toNat : Int) - 1 == 3) = false := beq_eq_false_iff_ne.2 (by omega)
  have m4 : ((b.toNat : Int) - 1 == 4) = false := beq_eq_false_iff_ne.2 (by omega)
  have hw : IntKind.i64.wrap ((b.toNat : Int) - 1) = (b.toNat : Int) - 1 := IntWalk.i64_in _ (by omega)
  clear h0 h1 h2 h3 h4 n0 n1 n2 n3 n4
  generalize txt (b :: r) = S at r0 x1 hS
  go_enter Tryd.func37, Tryd.ntmps37
  go_wp2_with fail
  go_quiet (fail)
  go_wp2
  refine bodyPost_ret (v := .tuple #[.agg #[.int .i64 0, .int .i64 0, .string ⟨#[]⟩], .string ByteArray.empty, .bool false]) (by simp [results, Tryd.results37, go_sem] <;> rfl) rfl ?_
  exact CutP.none ⟨0, 0, emp⟩ ByteArray.empty HF.out ((((Below.drewN' ((Below.refl _ _).alloc (Nat.le_refl _) _) nq).setCell (Nat.le_refl _) _).setCell (Nat.le_refl _) _).setCell (Nat.le_refl _) _)
end Go.Proofs.YtmlllgcmhapadaaDoor
