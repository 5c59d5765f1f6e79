/- The walk of cutMarked. -/
import Derived.Test.YtmlllgcmhapadaaDoorCut
import Derived.Deep.RegionLaw
namespace Go.Proofs.YtmlllgcmhapadaaDoor
open Go Go.RowKit

/-- The text that stands marked at the beginning, and what is behind its end. -/
def unmark : List UInt8 → Option (List UInt8 × List UInt8)
  | [] => none
  | b :: r =>
    if b = 0 then
      match r with
      | [] => none
      | c :: q => if c = 0 then some ([], q) else if c = 255 then (unmark q).map (fun x => (0 :: x.1, x.2)) else none
    else (unmark r).map (fun x => (b :: x.1, x.2))
def um (o c : List UInt8) : Option (List UInt8 × List UInt8) := (unmark c).map (fun x => (o ++ x.1, x.2))
theorem um_start (c : List UInt8) : um [] c = unmark c := by
  unfold um; cases unmark c <;> rfl
theorem um_plain (o r : List UInt8) (b : UInt8) (h : b ≠ 0) : um o (b :: r) = um (o ++ [b]) r := by
  unfold um
  rw [unmark.eq_def]
  simp only [if_neg h]
  cases unmark r <;> simp
theorem um_zero (o q : List UInt8) : um o (0 :: 255 :: q) = um (o ++ [0]) q := by
  unfold um
  rw [unmark, if_pos rfl]
  simp only [show ¬ ((255 : UInt8) = 0) by decide, if_false, if_true]
  cases unmark q <;> simp
theorem um_end (o q : List UInt8) : um o (0 :: 0 :: q) = some (o, q) := by
  unfold um
  rw [unmark, if_pos rfl]
  simp
theorem um_bad (o : List UInt8) (c : UInt8) (q : List UInt8) (h0 : c ≠ 0) (h1 : c ≠ 255) : um o (0 :: c :: q) = none := by
  unfold um
  rw [unmark, if_pos rfl]
  simp [h0, h1]
theorem um_one (o : List UInt8) : um o [0] = none := by
  unfold um
  rw [unmark, if_pos rfl]
  rfl
theorem um_nil (o : List UInt8) : um o [] = none := rfl
theorem um_len {o c : List UInt8} {x : List UInt8 × List UInt8} (h : um o c = some x) : o.length ≤ x.1.length := by
  unfold um at h
  cases hc : unmark c with
  | none => rw [hc] at h; cases h
  | some y => rw [hc] at h; cases h; simp
/-- What cutMarked answers. -/
def markR (s : List UInt8) : Option (List UInt8 × List UInt8) := (unmark s).bind fun x => if x.1.length ≤ 1000 then some x else none
def strLen : Value → Nat
  | .string b => b.size
  | _ => 0
def markV (s : List UInt8) : Value := match markR s with
  | some x => .tuple #[.string (txt x.1), .string (txt x.2), .bool true]
  | none => .tuple #[.string ByteArray.empty, .string ByteArray.empty, .bool false]
theorem markV_none {s : List UInt8} (h : markR s = none) : markV s = .tuple #[.string ByteArray.empty, .string ByteArray.empty, .bool false] := by unfold markV; rw [h]
theorem markV_some {s a b : List UInt8} (h : markR s = some (a, b)) : markV s = .tuple #[.string (txt a), .string (txt b), .bool true] := by unfold markV; rw [h]

theorem OwB.form {w : World} {base : Nat} {v : Value} {l : List UInt8} (h : OwB w base v l) : ∃ a cap, v = .slice a l.length cap := by
  rcases h.2 with ⟨hv, h0⟩ | ⟨g, cap, cur, hv, _⟩
  · exact ⟨none, 0, by rw [hv, h0]⟩
  · exact ⟨_, _, hv⟩
theorem pre_nil (p : List UInt8) (b : UInt8) : Lib.hasPrefix [] (b :: p) = false := rfl
theorem ext2 (a b : UInt8) (q : List UInt8) : (txt (a :: b :: q)).extract 2 (txt (a :: b :: q)).size = txt q := by rw [end_txt]; rfl
theorem ext1 (a : UInt8) (q : List UInt8) : (txt (a :: q)).extract 1 (txt (a :: q)).size = txt q := by rw [end_txt]; rfl
theorem txt_not_empty (a : UInt8) (q : List UInt8) : (txt (a :: q)).toList.isEmpty = false := by rw [ByteArray.toList_eq]; rfl
theorem txt_empty : (txt []).toList.isEmpty = true := by rw [ByteArray.toList_eq]; rfl
theorem hasPrefix_txt (c : List UInt8) (p : Array UInt8) (b : Bool) (h : Lib.hasPrefix c p.toList = b) (w : World) :
    Calls Tryd.prog 63 #[.string (txt c), .string ⟨p⟩] w fun e w' => e = .returned (.bool b) ∧ w = w' := by
  refine (Tryd.strings_HasPrefix (txt c) ⟨p⟩ w).mono ?_
  rintro e w' ⟨rfl, rfl⟩
  exact ⟨by rw [txt_data, h], rfl⟩

set_option maxRecDepth 100000 in
set_option maxHeartbeats 4000000 in
theorem cutMarked_any (s0 : ByteArray) (hm : s0.size ≤ 1000000000) (w : World) :
    Calls Tryd.prog 47 #[.string s0] w fun e w' => e = .returned (markV s0.data.toList) ∧ Below w.heap.size w w' := by
  go_enter Tryd.func47, Tryd.ntmps47
  go_wp2
  go_loopw [0, 5] (fun s v wr => ∃ (c o : List UInt8), s = .string (txt c) ∧ OwB wr w.heap.size v o ∧ o.length ≤ 1001 ∧ c.length ≤ 1000000000 ∧ Hid (um o c = unmark s0.data.toList) ∧ Ch (fun _ => False) w wr) (fun s _ _ => strLen s)
  case atStart => exact ⟨s0.data.toList, [], rfl, OwB.nil _ _, by simp, by rw [size_data]; exact hm, Lib.hid (um_start _), Ch.refl _ _⟩
  case round =>
    obtain ⟨c, o, rfl, ho, hol, hcl, hu, hch⟩ := hrel
    have hz := hch.size
    obtain ⟨oa, ocap, rfl⟩ := ho.form
    cases c with
    | nil =>
      have he := txt_empty
      have HF : Hid (markR s0.data.toList = none) := Lib.hid (by unfold markR; rw [← hu.out, um_nil]; rfl)
      go_wp2
      go_ret3
      exact ⟨by rw [markV_none HF.out]; rfl, hch.new⟩
    | cons b r =>
      have he := txt_not_empty b r
      by_cases hol2 : o.length ≤ 1000
      · have hol3 : (o.length : Int) ≤ 1000 := by omega
        by_cases hb : b = 0
        · subst hb
          cases r with
          | nil =>
            have HF : Hid (markR s0.data.toList = none) := Lib.hid (by unfold markR; rw [← hu.out, um_one]; rfl)
            have P := Lib.hid (And.intro (hasPrefix_txt [0] #[0, 0] false rfl) (hasPrefix_txt [0] #[0, 255] false rfl))
            have e0 : (txt [0])[0]? = some 0 := rfl
            have r0 := run_index (txt [0]) .i64 0 0 rfl 0 e0
            clear e0
            generalize txt [0] = S at he P r0
            go_wp2_with (go_at_call 63; (first | (with_reducible refine (P.out.1 _).mono ?_) | (with_reducible refine (P.out.2 _).mono ?_)); rintro e w1 ⟨rfl, rfl⟩)
            go_ret3
            exact ⟨by rw [markV_none HF.out]; rfl, hch.new⟩
          | cons d q =>
            by_cases hd0 : d = 0
            · subst hd0
              have HF : Hid (markR s0.data.toList = some (o, q)) := Lib.hid (by unfold markR; rw [← hu.out, um_end]; simp [hol2])
              have P := Lib.hid (hasPrefix_txt (0 :: 0 :: q) #[0, 0] true rfl)
              have x2 := ext2 0 0 q
              have hS : (2 : Int) ≤ ((txt (0 :: 0 :: q)).size : Int) := by rw [txt_size]; simp; omega
              have hS2 : 2 ≤ (txt (0 :: 0 :: q)).size := by rw [txt_size]; simp
              have hcv : ∀ n, (convert 43 9 (.slice oa o.length ocap)).run Tryd.prog (wr.drewN n) = .ok (.string ⟨o.toArray⟩) (wr.drewN n) := fun n => conv_own (ho.keep (Ch.drewN (fun _ => False) wr n) (fun _ _ => id))
              generalize txt (0 :: 0 :: q) = S at he P x2 hS hS2
              go_wp2_with (go_at_call 63; (with_reducible refine (P.out _).mono ?_); rintro e w1 ⟨rfl, rfl⟩)
              go_quiet (fail)
              go_wp2
              go_ret3
              exact ⟨by rw [markV_some HF.out]; rfl, (hch.tr (Ch.drewN _ wr nq)).new⟩
            · by_cases hdF : d = 255
              · subst hdF
                have HU : Hid (um (o ++ [0]) q = unmark s0.data.toList) := Lib.hid (by rw [← um_zero]; exact hu.out)
                have P := Lib.hid (And.intro (hasPrefix_txt (0 :: 255 :: q) #[0, 0] false rfl) (hasPrefix_txt (0 :: 255 :: q) #[0, 255] true rfl))
                have x2 := ext2 0 255 q
                have hS : (2 : Int) ≤ ((txt (0 :: 255 :: q)).size : Int) := by rw [txt_size]; simp; omega
                have hS2 : 2 ≤ (txt (0 :: 255 :: q)).size := by rw [txt_size]; simp
                have HQ : Hid ((txt q).size < (txt (0 :: 255 :: q)).size) := Lib.hid (by rw [txt_size, txt_size, List.length_cons, List.length_cons]; omega)
                have hql : q.length ≤ 1000000000 := by simp at hcl; omega
                clear hu hcl
                generalize txt (0 :: 255 :: q) = S at he P x2 hS hS2 HQ
                go_wp2_with (go_at_call 63; (first | (with_reducible refine (P.out.1 _).mono ?_) | (with_reducible refine (P.out.2 _).mono ?_)); rintro e w1 ⟨rfl, rfl⟩)
                go_region_law (refine step_bytes rfl (.tmp 30) (.tmp 31) rfl w.heap.size (.slice oa o.length ocap) o rfl (ho.keep ((Ch.drew (fun _ => False) _).tr (Ch.alloc _ _ _)) (fun _ _ => id)) wr.heap.size [0] 1 rfl rfl (heap_alloc_new wr.drew _) ?_ ?_ ?_; (omega); (simp; omega); intro v' w1 ho1 hg1)
                all_goals
                  have hch1 : Ch (fun _ => False) w w1 := ((hch.tr (Ch.drew _ wr)).tr (Ch.alloc _ _ _)).trans hg1 (fun j hj h => by have := (ho.own j h).1; omega)
                  clear hg1 ho hch
                  go_wp2
                  go_roundw
                  case rel => (repeat apply Exists.intro); exact ⟨⟨q, o ++ [0], rfl, ho1, by simp; omega, hql, HU, hch1⟩, rfl⟩
                  case measure => exact HQ.out
              · have HF : Hid (markR s0.data.toList = none) := Lib.hid (by unfold markR; rw [← hu.out, um_bad o d q hd0 hdF]; rfl)
                have P := Lib.hid (And.intro (hasPrefix_txt (0 :: d :: q) #[0, 0] false (by simp [Lib.hasPrefix, List.isPrefixOf, Ne.symm hd0])) (hasPrefix_txt (0 :: d :: q) #[0, 255] false (by simp [Lib.hasPrefix, List.isPrefixOf, Ne.symm hdF])))
                have e0 : (txt (0 :: d :: q))[0]? = some 0 := get_of_data _ 0 rfl
                have r0 := run_index (txt (0 :: d :: q)) .i64 0 0 rfl 0 e0
                clear e0
                generalize txt (0 :: d :: q) = S at he P r0
                go_wp2_with (go_at_call 63; (first | (with_reducible refine (P.out.1 _).mono ?_) | (with_reducible refine (P.out.2 _).mono ?_)); rintro e w1 ⟨rfl, rfl⟩)
                go_ret3
                exact ⟨by rw [markV_none HF.out]; rfl, hch.new⟩
        · have HU : Hid (um (o ++ [b]) r = unmark s0.data.toList) := Lib.hid (by rw [← um_plain o r b hb]; exact hu.out)
          have P := Lib.hid (And.intro (hasPrefix_txt (b :: r) #[0, 0] false (by simp [Lib.hasPrefix, List.isPrefixOf, Ne.symm hb])) (hasPrefix_txt (b :: r) #[0, 255] false (by simp [Lib.hasPrefix, List.isPrefixOf, Ne.symm hb])))
          have x1 := ext1 b r
          have hS : (1 : Int) ≤ ((txt (b :: r)).size : Int) := by rw [txt_size]; simp; omega
          have hS2 : 0 < (txt (b :: r)).size := by rw [txt_size]; simp
          have HQ : Hid ((txt r).size < (txt (b :: r)).size) := Lib.hid (by rw [txt_size, txt_size, List.length_cons]; omega)
          have hql : r.length ≤ 1000000000 := by simp at hcl; omega
          have e0 : (txt (b :: r))[0]? = some b := get_of_data _ 0 rfl
          have r0 := run_index (txt (b :: r)) .i64 0 0 rfl b e0
          have hb0 : ((b.toNat : Int) == 0) = false := by
            rw [beq_eq_false_iff_ne]
            intro h
            exact hb (UInt8.toNat_inj.1 (by simpa using h))
          clear hu hcl e0
          generalize txt (b :: r) = S at he P x1 hS hS2 HQ r0
          go_wp2_with (go_at_call 63; (first | (with_reducible refine (P.out.1 _).mono ?_) | (with_reducible refine (P.out.2 _).mono ?_)); rintro e w1 ⟨rfl, rfl⟩)
          go_region_law (refine step_bytes rfl (.tmp 13) (.tmp 16) rfl w.heap.size (.slice oa o.length ocap) o rfl (ho.keep ((Ch.drew (fun _ => False) _).tr (Ch.alloc _ _ _)) (fun _ _ => id)) wr.heap.size [b] 1 rfl rfl (heap_alloc_new wr.drew _) ?_ ?_ ?_; (omega); (simp; omega); intro v' w1 ho1 hg1)
          all_goals
            have hch1 : Ch (fun _ => False) w w1 := ((hch.tr (Ch.drew _ wr)).tr (Ch.alloc _ _ _)).trans hg1 (fun j hj h => by have := (ho.own j h).1; omega)
            clear hg1 ho hch
            go_wp2
            go_roundw
            case rel => (repeat apply Exists.intro); exact ⟨⟨r, o ++ [b], rfl, ho1, by simp; omega, hql, HU, hch1⟩, rfl⟩
            case measure => exact HQ.out
      · have hol3 : 1000 < (o.length : Int) := by omega
        have HF : Hid (markR s0.data.toList = none) := Lib.hid (by
          unfold markR
          rw [← hu.out]
          cases hx : um o (b :: r) with
          | none => rfl
          | some x =>
            have := um_len hx
            show (if x.1.length ≤ 1000 then some x else none) = none
            rw [if_neg (by omega)])
        generalize txt (b :: r) = S at he
        go_wp2
        go_ret3
        exact ⟨by rw [markV_none HF.out]; rfl, hch.new⟩
end Go.Proofs.YtmlllgcmhapadaaDoor
