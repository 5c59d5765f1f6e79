/- The walks of both Wraps. -/
import Derived.Test.YtogihpofkjpokaaGreatDoorFModel
namespace Go.Proofs.YtogihpofkjpokaaGreatDoor.F5
open Go Go.RowKit

/-- A text of these bytes. -/
def txt (l : List UInt8) : ByteArray := ⟨l.toArray⟩
theorem txt_data (s : ByteArray) : txt s.data.toList = s := rfl
theorem data_txt (l : List UInt8) : (txt l).data.toList = l := rfl
theorem txt_size (l : List UInt8) : (txt l).size = l.length := rfl
theorem txt_inj {l m : List UInt8} (h : txt l = txt m) : l = m := by rw [← data_txt l, h, data_txt]
theorem cat (l m : List UInt8) (h : l.length + m.length ≤ 4000000000) : binOp .add 9 (.string (txt l)) (.string (txt m)) = pure (.string (txt (l ++ m))) := by
  have e : txt l ++ txt m = txt (l ++ m) := by apply ByteArray.ext; simp [txt]
  have h2 : ¬ (((txt l).size + (txt m).size : Nat) : Int) > IntKind.i64.max := by rw [txt_size, txt_size, show IntKind.i64.max = 9223372036854775807 by decide]; omega
  simp only [binOp, Op.stringOp]
  rw [if_neg h2, e]
theorem check_txt (l : List UInt8) (h : l.length ≤ 4000000) (w : World) :
    Calls Tryz.prog 76 #[.string (txt l)] w fun e w' => e = .returned (.int .u32 (u (crcL l))) ∧ w' = w :=
  (check_any (txt l) w (by rw [txt_size]; unfold maxLen; omega)).mono fun _ _ ⟨he, hw⟩ => ⟨he, hw.symm⟩
theorem u_lenW {p : List UInt8} (h : p.length ≤ 1048577) : ((p.length : Nat) : Int) = u (lenW p) := by
  unfold u; rw [lenW_toNat h]
theorem frame_cat (p : List UInt8) : be4 (lenW p) ++ be4 (crcL (be4 (lenW p))) ++ be4 (crcL p) ++ p = frameL p := by
  unfold frameL; simp only [List.append_assoc]

set_option maxRecDepth 100000 in
set_option maxHeartbeats 1000000 in
theorem wrap_any (p : List UInt8) (hp : p.length ≤ 100000) (w : World) :
    Calls Tryz.prog 83 #[.string (txt p)] w fun e w' => e = .returned (.tuple #[.string (txt (frameL p)), .bool true]) ∧ Below w.heap.size w w' := by
  have h0 : (p.length : Int) ≤ 1048577 := by omega
  have hz := txt_size p
  have P : Hid (∀ w, Calls Tryz.prog 101 #[.int .u32 (p.length : Int)] w fun e w' => e = .returned (.string (txt (be4 (lenW p)))) ∧ Below w.heap.size w w') := Lib.hid fun w => by
    rw [u_lenW (by omega)]; exact word_any _ w
  have P1 := Lib.hid (check_txt (be4 (lenW p)) (by rw [be4_length]; omega))
  have P2 := Lib.hid (word_any (crcL (be4 (lenW p))))
  have P3 := Lib.hid (check_txt p (by omega))
  have P4 := Lib.hid (word_any (crcL p))
  have c1 := cat (be4 (lenW p)) (be4 (crcL (be4 (lenW p)))) (by rw [be4_length, be4_length]; omega)
  have c2 := cat (be4 (lenW p) ++ be4 (crcL (be4 (lenW p)))) (be4 (crcL p)) (by rw [List.length_append, be4_length, be4_length, be4_length]; omega)
  have c3 := cat (be4 (lenW p) ++ be4 (crcL (be4 (lenW p))) ++ be4 (crcL p)) p (by rw [List.length_append, List.length_append, be4_length, be4_length, be4_length]; omega)
  rw [frame_cat] at c3
  generalize u (crcL (be4 (lenW p))) = n1 at P1 P2
  generalize u (crcL p) = n2 at P3 P4
  have P2' : Hid (∀ w, Calls Tryz.prog 101 #[.int .u32 n1] w fun e w' => e = .returned (.string (txt (be4 (crcL (be4 (lenW p)))))) ∧ Below w.heap.size w w') := P2
  have P4' : Hid (∀ w, Calls Tryz.prog 101 #[.int .u32 n2] w fun e w' => e = .returned (.string (txt (be4 (crcL p)))) ∧ Below w.heap.size w w') := P4
  generalize txt (be4 (crcL p)) = t2 at P4' c2
  generalize txt (be4 (lenW p) ++ be4 (crcL (be4 (lenW p))) ++ be4 (crcL p)) = a2 at c2 c3
  generalize txt (be4 (lenW p) ++ be4 (crcL (be4 (lenW p)))) = a1 at c1 c2
  generalize txt (be4 (crcL (be4 (lenW p)))) = t1 at P2' c1
  generalize txt (be4 (lenW p)) = t0 at P P1 c1
  generalize txt (frameL p) = t3 at c3 ⊢
  clear P2 P4
  go_enter Tryz.func83, Tryz.ntmps83
  go_wp2_with (first
    | (go_at_call 76; (first | (with_reducible refine (P1.out _).mono ?_) | (with_reducible refine (P3.out _).mono ?_)); rintro e w' ⟨rfl, rfl⟩)
    | (go_at_call 101; (with_reducible refine (P.out _).mono ?_); rintro e w1 ⟨rfl, hb1⟩)
    | (go_at_call 101; (with_reducible refine (P2'.out _).mono ?_); rintro e w2 ⟨rfl, hb2⟩)
    | (go_at_call 101; (with_reducible refine (P4'.out _).mono ?_); rintro e w3 ⟨rfl, hb3⟩))
  go_ret2
  have hz1 := hb1.size
  have hz2 := hb2.size
  exact ⟨rfl, (hb1.trans (hb2.mono hz1)).trans (hb3.mono (Nat.le_trans hz1 hz2))⟩
end Go.Proofs.YtogihpofkjpokaaGreatDoor.F5
