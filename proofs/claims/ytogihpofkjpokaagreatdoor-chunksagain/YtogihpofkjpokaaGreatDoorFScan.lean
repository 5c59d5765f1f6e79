/- The walk of Scan. -/
import Derived.Test.YtogihpofkjpokaaGreatDoorFTexts
namespace Go.Proofs.YtogihpofkjpokaaGreatDoor.F5
open Go Go.RowKit
attribute [-go_sem] Builtin.append_

/-- What has been told so far: the frames of xs stand ahead of r. -/
structure SI (w wr : World) (s : List UInt8) (v : Value) (xs : List (List UInt8)) (r : List UInt8) : Prop where
  own : OwT wr w.heap.size v xs
  ch : Below w.heap.size w wr
  cut : s = flat xs ++ r
  few : ∀ x ∈ xs, x.length ≤ 1048577
theorem SI.rest {w wr : World} {s : List UInt8} {v : Value} {xs : List (List UInt8)} {r : List UInt8} (h : SI w wr s v xs r) : s.drop (flat xs).length = r := by
  rw [h.cut]; simp
theorem SI.len {w wr : World} {s : List UInt8} {v : Value} {xs : List (List UInt8)} {r : List UInt8} (h : SI w wr s v xs r) : s.length = (flat xs).length + r.length := by
  rw [h.cut, List.length_append]
theorem SI.app {w wr w1 w2 : World} {s : List UInt8} {v v2 : Value} {xs : List (List UInt8)} {r p : List UInt8} (h : SI w wr s v xs r) (hf : firstL r = some p) (h1 : Ch (fun _ => False) wr w1)
    (ho : OwT w2 w.heap.size v2 (xs ++ [p])) (hc : Ch (fun j => v.ownBlock = some j) w1 w2) : ∃ r2, SI w w2 s v2 (xs ++ [p]) r2 := by
  obtain ⟨hp, r2, hr⟩ := first_some hf
  have hC : Ch (fun j => v.ownBlock = some j) wr w2 := (Ch.mono h1 fun _ _ e => False.elim e).tr hc
  have hge : ∀ j, v.ownBlock = some j → w.heap.size ≤ j := fun j hj => (h.own.own j hj).1
  refine ⟨r2, ho, h.ch.trans (hC.below h.ch.size fun k hk e => by have := hge _ e; omega), ?_, fun x hx => ?_⟩
  · rw [flat_snoc, List.append_assoc, ← hr, ← h.cut]
  · rcases List.mem_append.1 hx with hx | hx
    · exact h.few x hx
    · rw [List.mem_singleton.1 hx]; exact hp

set_option maxRecDepth 100000 in
set_option maxHeartbeats 1000000 in
theorem scan_any (s : List UInt8) (hs : s.length ≤ 100000) (w : World) :
    Calls Tryz.prog 51 #[.string (txt s)] w fun e w' => ∃ v xs, e = .returned (.tuple #[v, .int .i64 ((flat xs).length : Int)]) ∧ OwT w' w.heap.size v xs ∧ Scanned s xs ∧ Below w.heap.size w w' := by
  have hz := txt_size s
  have hs' : (s.length : Int) ≤ 100000 := by omega
  have H0 : Hid (SI w w s (.slice none 0 0) [] s) := Lib.hid ⟨OwT.nil _ _, Below.refl _ _, rfl, fun x hx => by simp at hx⟩
  go_enter Tryz.func51, Tryz.ntmps51
  go_wp2
  go_loopw [4, 5, 6, 7] (fun v t _ _ wr => ∃ (xs : List (List UInt8)) (r : List UInt8) (n : Nat), t = .int .i64 (n : Int) ∧ Hid (n = (flat xs).length) ∧ Hid (SI w wr s v xs r)) (fun _ t _ _ _ => s.length - (intOf t).toNat)
  case atStart => exact ⟨[], s, 0, rfl, Lib.hid rfl, H0⟩
  case round =>
    clear H0
    obtain ⟨xs, r, n, rfl, HN, HI⟩ := hrel
    obtain ⟨a, c, hv⟩ := HI.out.own.form
    subst hv
    have hn : n ≤ s.length := by rw [HN.out, HI.out.len]; omega
    have hn' : (n : Int) ≤ (s.length : Int) := by omega
    have hn0 : (0 : Int) ≤ (n : Int) := by omega
    have e1 : (txt s).extract n s.length = txt r := by rw [txt_drop, HN.out, HI.out.rest]
    have P := Lib.hid (first_any r (by have := HI.out.len; omega))
    cases hf : firstL r with
    | none =>
      rw [hf] at P
      have P' : Hid (∀ w, Calls Tryz.prog 72 #[.string (txt r)] w fun e w' => e = .returned (.tuple #[.string (txt []), .bool false]) ∧ ∃ m, w' = w.drewN m) := P
      clear P
      have HF := Lib.hid hf
      clear hf
      go_wp2_with (go_at_call 72; (with_reducible refine (P'.out _).mono ?_); rintro e w1 ⟨rfl, m, rfl⟩)
      go_ret2
      refine ⟨.slice a xs.length c, xs, (by rw [← HN.out]; rfl), HI.out.own.keep (Ch.drewN (fun _ => False) _ _) (fun _ _ => id), ⟨r, HI.out.cut, HF.out, HI.out.few⟩, HI.out.ch.trans ((Ch.drewN (fun _ => False) _ _).below HI.out.ch.size fun _ _ => id)⟩
    | some p =>
      rw [hf] at P
      have P' : Hid (∀ w, Calls Tryz.prog 72 #[.string (txt r)] w fun e w' => e = .returned (.tuple #[.string (txt p), .bool true]) ∧ ∃ m, w' = w.drewN m) := P
      clear P
      have HF := Lib.hid hf
      clear hf
      have hpl : n + (12 + p.length) ≤ s.length := by
        obtain ⟨_, r2, hr⟩ := first_some HF.out
        have h1 := HI.out.len
        have h2 := congrArg List.length hr
        rw [List.length_append, frameL_length] at h2
        rw [← HN.out] at h1
        omega
      have hpl' : (n : Int) + (12 + (p.length : Int)) ≤ (s.length : Int) := by omega
      have hzp := txt_size p
      have C := Lib.hid (fun w => clone_any (txt p) w (by rw [txt_size]; omega))
      have hxl : xs.length + 1 ≤ 100000000 := by
        have h1 := flat_count xs
        have h2 := HN.out
        omega
      have hcs := HI.out.ch.size
      have HX := Lib.hid (And.intro hn hpl)
      clear hn hpl
      go_wp2_with (first
        | (go_at_call 72; (with_reducible refine (P'.out _).mono ?_); rintro e w1 ⟨rfl, m, rfl⟩)
        | (go_at_call 39; (with_reducible refine (C.out _).mono ?_); rintro e w2 ⟨rfl, hb2⟩
           have hC2 : Ch (fun _ => False) wr w2 := (Ch.drewN _ wr m).tr (Ch.of_new hb2)
           have hs2 := hC2.size)
        | (at_builtin; refine wpList_one rfl (.tmp 19) (.tmp 22) rfl w.heap.size (.slice a xs.length c) xs rfl (HI.out.own.keep (hC2.tr (Ch.alloc _ _ _)) (fun _ _ => id)) w2.heap.size p rfl (srow _ _ rfl _) hxl (by simp; omega) ?_; intro g3 w3 ho3 hc3))
      go_roundw
      case rel =>
        obtain ⟨r2, h2⟩ := HI.out.app HF.out (hC2.tr (Ch.alloc _ _ _)) ho3 hc3
        exact ⟨xs ++ [p], r2, n + (12 + p.length), by go_num, Lib.hid (by rw [flat_snoc, List.length_append, frameL_length, HN.out]), Lib.hid h2⟩
      case measure => simp [intOf]; omega
end Go.Proofs.YtogihpofkjpokaaGreatDoor.F5
