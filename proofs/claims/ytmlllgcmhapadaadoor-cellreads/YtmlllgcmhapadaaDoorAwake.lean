/- The law's own look that the program is awake. -/
import Derived.Test.YtmlllgcmhapadaaDoorShow
import Derived.Test.YtmlllgcmhapadaaDoorKey
import Derived.Test.YtmlllgcmhapadaaDoorRead
namespace Go.Proofs.YtmlllgcmhapadaaDoor
open Go Go.RowKit

def a0 : V := ⟨1, -1, ⟨#[]⟩⟩
def a1 : V := ⟨3, 0, ⟨#[97, 0]⟩⟩
def aw : List V := [a0, a1]
def awKey : List UInt8 := [2, 127, 255, 255, 255, 255, 255, 255, 255, 4, 97, 0, 255, 0, 0]
theorem aw_tuple : tupleB aw = true := by decide
theorem aw_key : keyT aw = txt awKey := by
  unfold keyT
  rw [if_pos aw_tuple]
  rfl
theorem aw_back : readAll cutK awKey = some aw := by kernel_rfl
theorem aw_show : showL a0 = [45, 49] := by decide +kernel
theorem aw_ok : ∀ y ∈ aw, y.ok := by
  intro y hy
  simp only [aw, List.mem_cons, List.not_mem_nil, or_false] at hy
  rcases hy with rfl | rfl <;> exact ⟨by decide, by decide, by decide, by decide⟩
theorem aw_rd (w : World) : Rd (w.alloc (.cells #[.int .i64 1, .int .i64 (-1), .string ⟨#[]⟩, .int .i64 3, .int .i64 0, .string ⟨#[97, 0]⟩] 23)) (some ⟨w.heap.size, 0, none⟩) aw := by
  have h := heap_alloc_new w (.cells #[.int .i64 1, .int .i64 (-1), .string ⟨#[]⟩, .int .i64 3, .int .i64 0, .string ⟨#[97, 0]⟩] 23)
  intro i hi
  have hi2 : i < 2 := hi
  refine ⟨w.heap.size, 0, rfl, ?_⟩
  rcases (show i = 0 ∨ i = 1 by omega) with rfl | rfl
  · exact ⟨cell_of_row _ _ _ _ _ _ h, cell_of_row _ _ _ _ _ _ h, cell_of_row _ _ _ _ _ _ h⟩
  · exact ⟨cell_of_row _ _ _ _ _ _ h, cell_of_row _ _ _ _ _ _ h, cell_of_row _ _ _ _ _ _ h⟩
theorem aw_key_any (w : World) (hE : Env w) :
    Calls Tryd.prog 17 #[.slice (some ⟨w.heap.size, 0, none⟩) 2 2] (w.alloc (.cells #[.int .i64 1, .int .i64 (-1), .string ⟨#[]⟩, .int .i64 3, .int .i64 0, .string ⟨#[97, 0]⟩] 23)) fun e w' => e = .returned (.tuple #[.string (txt awKey), .bool true]) ∧ Below w.heap.size w w' := by
  obtain ⟨m, hm⟩ := hE.1
  refine (key_any m _ ((Ch.alloc (fun _ => False) w _).cell hm id) _ 2 aw (aw_rd w) aw_ok).mono ?_
  rintro e w' ⟨rfl, hb⟩
  exact ⟨by rw [aw_key, aw_tuple], ((Below.refl _ _).alloc (Nat.le_refl _) _).trans (hb.mono (by simp))⟩

set_option maxRecDepth 100000 in
set_option maxHeartbeats 1000000 in
theorem awake_any (w : World) (hE : Env w) :
    Calls Tryd.prog 9 #[] w fun e w' => e = .returned (.bool true) ∧ Below w.heap.size w w' := by
  have H1 := Lib.hid (aw_key_any w hE)
  have HE := Lib.hid hE
  clear hE
  go_enter Tryd.func9, Tryd.ntmps9
  go_wp2_with fail
  refine H1.out.mono ?_
  rintro e w1 ⟨rfl, hb1⟩
  have HE1 := Lib.hid (HE.out.keep hb1)
  go_wp2_with fail
  refine (Back_any (txt awKey) (by decide) w1).mono ?_
  rintro e w2 ⟨⟨xs, v, h1, rfl, h3⟩ | ⟨h1, rfl⟩, hb2⟩
  · rw [txt_data, aw_back] at h1
    cases h1
    obtain ⟨a, cap, rfl, hr, hlt, -⟩ := h3.rd
    have HE2 := Lib.hid (HE1.out.keep hb2)
    obtain ⟨b, off, rfl, c0, c1, c2⟩ := hr 0 (by decide)
    obtain ⟨b', off', he, c3, c4, c5⟩ := hr 1 (by decide)
    obtain ⟨rfl, rfl⟩ : b = b' ∧ off = off' := by injection he with h; injection h with h1 h2; exact ⟨h1, h2⟩
    have hB : Below w.heap.size w w2 := hb1.trans (hb2.mono hb1.size)
    have HB := Lib.hid hB
    clear hB hb1 hb2 he h3 hr hlt
    have HS := Lib.hid (fun W (h : Env W) => show_any a0 ⟨by decide, by decide, by decide, by decide⟩ W h)
    rw [aw_show] at HS
    rw [show aw.length = 2 from rfl]
    simp only [aw, at_, a0, a1, List.getD_cons_zero, List.getD_cons_succ, Nat.zero_mul, Nat.add_zero] at c0 c1 c2 c3 c4 c5
    unfold V.val a0 at HS
    go_wp2_with (go_at_call 12; (with_reducible refine (HS.out w2 HE2.out).mono ?_); rintro e w3 ⟨rfl, hb3⟩)
    go_ret
    exact ⟨ret_bool (by rw [ByteArray.toList_eq]; rfl), HB.out.trans (hb3.mono HB.out.size)⟩
  · rw [txt_data, aw_back] at h1
    cases h1
end Go.Proofs.YtmlllgcmhapadaaDoor
