/- Walk of padding. -/
import Derived.Test.YtfjlkphpeneahaaDoorAWalkB
import Derived.Test.YtfjlkphpeneahaaDoorShelf
import Derived.Deep.RegionHeld3
namespace Go.Proofs.YtfjlkphpeneahaaDoor.S1
open Go.RowKit

/-- Byte i of a length in bits, the highest of eight first. -/
def lenByte (n i : Nat) : UInt8 := UInt8.ofNat (8 * n / 2 ^ (56 - 8 * i))
def zerosFor (n : Nat) : Nat := (119 - n % 64) % 64
/-- What follows a text of n bytes. -/
def padL (n : Nat) : List UInt8 := 128 :: List.replicate (zerosFor n) 0 ++ (List.range 8).map (lenByte n)

theorem lenByte_toNat (n i : Nat) : (8 * (n : Int)) / 2 ^ (56 - 8 * i) % 256 = ((lenByte n i).toNat : Int) := by
  unfold lenByte
  rw [UInt8.toNat_ofNat']
  simp

theorem repeat0 (z : Nat) (hz : z < 64) (r : ByteArray) (hr : Hid (r = ⟨(List.replicate z 0).toArray⟩)) (w : World) :
    Calls Tryd.prog 87 #[.string ⟨#[0]⟩, .int .i64 z] w fun e w' => e = .returned (.string r) ∧ Below w.heap.size w w' := by
  rw [hr.out]
  refine (Tryd.strings_Repeat ⟨#[0]⟩ z w (by omega) (by show 1 * z ≤ _; omega)).mono ?_
  rintro e w' ⟨rfl, hb⟩
  refine ⟨?_, hb⟩
  have h : ∀ z, Lib.repeatL (ByteArray.mk #[0]).data.toList z = List.replicate z 0 := fun z => by
    induction z with
    | zero => rfl
    | succ z ih => rw [Lib.repeatL, ih]; rfl
  rw [h]

set_option maxRecDepth 100000 in
set_option maxHeartbeats 400000 in
theorem padding_any (n : Nat) (hn : n ≤ 1000000) (w : World) :
    Calls Tryd.prog 57 #[.int .i64 n] w fun e w' => e = .returned (.string ⟨(padL n).toArray⟩) ∧ Below w.heap.size w w' := by
  have hz0 : (0 : Int) ≤ 119 - (n : Int) % 64 := by omega
  go_enter Tryd.func57, Tryd.ntmps57
  go_wp2
  go_loopw [14] (fun i wr => ∃ k : Nat, ∃ l : List UInt8, k ≤ 8 ∧ i = .int .i64 k ∧ l.length = 8 ∧ (∀ j, j < k → l.getD j 0 = lenByte n j) ∧ BRow wr w.heap.size 150 l ∧ Below w.heap.size w wr) (fun i _ => 8 - (intOf i).toNat)
  case atStart =>
    refine ⟨0, List.replicate 8 0, by omega, rfl, by simp, fun j hj => absurd hj (by omega), heap_alloc_new _ _, (Below.refl _ _).alloc (Nat.le_refl _) _⟩
  case round =>
    obtain ⟨k, l, hk, rfl, hl0, hp0, hb1, hB⟩ := hrel
    have hl := Lib.hid hl0
    have hp := Lib.hid hp0
    clear hl0 hp0
    by_cases hlt : k < 8
    · have hl8 := hl.out
      have c0 := hb1.cell k (by omega)
      have g0 := hb1.frozen k
      clear hl8
      have hs0 : (0 : Int) ≤ 56 - 8 * (k : Int) := by omega
      have hst : (56 - 8 * (k : Int)).toNat = 56 - 8 * k := by omega
      go_wp2
      go_roundw
      case rel =>
        rw [Int.mul_comm, lenByte_toNat]
        have s0 := bytes_step (f := lenByte n) hl.out hlt hp.out rfl
        exact ⟨k + 1, _, by omega, by go_num, s0.1, s0.2, hb1.set _ _, hB.setCell (by simp) _⟩
      case measure => simp [intOf]; omega
    · obtain ⟨tl, htl0⟩ : ∃ tl : ByteArray, tl = ⟨l.toArray⟩ := ⟨_, rfl⟩
      have htl := Lib.hid htl0
      clear htl0
      obtain ⟨r, hr0⟩ : ∃ r : ByteArray, r = ⟨(List.replicate (zerosFor n) 0).toArray⟩ := ⟨_, rfl⟩
      have hr := Lib.hid hr0
      clear hr0
      have hcv : ∀ w', BRow w' w.heap.size 150 l → (convert 108 9 (.slice (some ⟨w.heap.size, 0, none⟩) 8 8)).run Tryd.prog w' = .ok (.string tl) w' := fun w' hw => by
        have h := run_convert_bytes_back (P := Tryd.prog) w' 108 9 5 ⟨w.heap.size, 0, none⟩ 8 l Tryd.underlying108 Tryd.underlying5 Tryd.underlying9 hw.text
        rw [htl.out]
        rwa [hl.out] at h
      have HCV := Lib.hid hcv
      clear hcv
      have hcv0 := HCV.out wr hb1
      have hcv1 := HCV.out wr.drew hb1
      have hze : ((119 - (n : Int) % 64) % 64) = ((zerosFor n : Nat) : Int) := by unfold zerosFor; omega
      have hzl : zerosFor n < 64 := by unfold zerosFor; omega
      have sr : r.size < 64 := by rw [hr.out]; simpa [ByteArray.size] using hzl
      have stl : tl.size = 8 := by rw [htl.out]; simpa [ByteArray.size] using hl.out
      have a1 : ∀ w, (Op.stringOp .add (ByteArray.mk #[128]) r).run Tryd.prog w = .ok (.string (ByteArray.mk #[128] ++ r)) w := fun w => run_string_add_sum w _ _ (by show 1 + r.size ≤ _; omega)
      have a2 : ∀ w, (Op.stringOp .add (ByteArray.mk #[128] ++ r) tl).run Tryd.prog w = .ok (.string (ByteArray.mk #[128] ++ r ++ tl)) w := fun w => run_string_add_sum w _ _ (by rw [ByteArray.size_append]; show 1 + r.size + _ ≤ _; omega)
      have STL := Lib.hid stl
      clear stl
      go_wp2
      simp only [hze]
      have hend : (ByteArray.mk #[128] ++ r ++ tl) = ⟨(padL n).toArray⟩ := by
        have hk8 : k = 8 := by omega
        subst hk8
        have e : ByteArray.mk #[128] = ByteArray.mk [128].toArray := rfl
        rw [hr.out, htl.out, e, ByteArray.mk_append_mk, ByteArray.mk_append_mk, blist_of_getD l 8 (lenByte n) hl.out hp.out]
        rfl
      have HEND := Lib.hid hend
      clear hend
      generalize zerosFor n = z at hzl hr ⊢
      clear hze
      go_region_with (go_at_call 87; refine (repeat0 z hzl r hr _).mono ?_; rintro e w2 ⟨rfl, hb2⟩; have hcv2 := HCV.out w2 ((show BRow wr.drew w.heap.size 150 l from hb1).below hb2 hb1.lt))
      all_goals
        go_wp2
        go_ret
        exact ⟨by rw [HEND.out]; rfl, (hB.drew).trans (hb2.mono (by have := hB.size; exact this))⟩
end Go.Proofs.YtfjlkphpeneahaaDoor.S1
