/- The law's own look that the program is alive. -/
import Derived.Test.YtbbdlggbddaahaaDoorAbc
namespace Go.Proofs.YtbbdlggbddaahaaDoor
open Go.RowKit

def pabc : ByteArray := ⟨(shaL [97, 98, 99]).toArray⟩
def habc : ByteArray := ⟨#[98, 97, 55, 56, 49, 54, 98, 102, 56, 102, 48, 49, 99, 102, 101, 97, 52, 49, 52, 49, 52, 48, 100, 101, 53, 100, 97, 101, 50, 50, 50, 51, 98, 48, 48, 51, 54, 49, 97, 51, 57, 54, 49, 55, 55, 97, 57, 99, 98, 52, 49, 48, 102, 102, 54, 49, 102, 50, 48, 48, 49, 53, 97, 100]⟩
theorem print_abc (w : World) (hK : KR w) :
    Calls Tryd.prog 9 #[.string ⟨#[97, 98, 99]⟩] w fun e w' => e = .returned (.string pabc) ∧ Below w.heap.size w w' :=
  print_any ⟨#[97, 98, 99]⟩ (by decide) w hK
theorem hex_of_abc (w : World) :
    Calls Tryd.prog 15 #[.string pabc] w fun e w' => e = .returned (.string habc) ∧ Below w.heap.size w w' := by
  refine (hex_any pabc w ?_).mono ?_
  · show (shaL [97, 98, 99]).toArray.size ≤ _
    rw [sha_abc]; decide
  · rintro e w' ⟨rfl, hb⟩
    refine ⟨?_, hb⟩
    show Ending.returned (.string ⟨(hexL (shaL [97, 98, 99])).toArray⟩) = _
    rw [hex_abc]; rfl
theorem check_nine (w : World) :
    Calls Tryd.prog 13 #[.string ⟨#[49, 50, 51, 52, 53, 54, 55, 56, 57]⟩] w fun e w' => e = .returned (.int .u32 3421780262) ∧ w = w' := by
  refine (check_any ⟨#[49, 50, 51, 52, 53, 54, 55, 56, 57]⟩ w (by decide)).mono ?_
  rintro e w' ⟨rfl, hw⟩
  refine ⟨?_, hw⟩
  show Ending.returned (.int .u32 (u (crcL [49, 50, 51, 52, 53, 54, 55, 56, 57]))) = _
  rw [crc_nine]; rfl
theorem habc_eq : (habc.toList == [98, 97, 55, 56, 49, 54, 98, 102, 56, 102, 48, 49, 99, 102, 101, 97, 52, 49, 52, 49, 52, 48, 100, 101, 53, 100, 97, 101, 50, 50, 50, 51, 98, 48, 48, 51, 54, 49, 97, 51, 57, 54, 49, 55, 55, 97, 57, 99, 98, 52, 49, 48, 102, 102, 54, 49, 102, 50, 48, 48, 49, 53, 97, 100]) = true := by
  have e : habc.toList = [98, 97, 55, 56, 49, 54, 98, 102, 56, 102, 48, 49, 99, 102, 101, 97, 52, 49, 52, 49, 52, 48, 100, 101, 53, 100, 97, 101, 50, 50, 50, 51, 98, 48, 48, 51, 54, 49, 97, 51, 57, 54, 49, 55, 55, 97, 57, 99, 98, 52, 49, 48, 102, 102, 54, 49, 102, 50, 48, 48, 49, 53, 97, 100] := by rw [ByteArray.toList_eq]; rfl
  rw [e]; exact beq_self_eq_true _

set_option maxRecDepth 100000 in
set_option maxHeartbeats 400000 in
theorem alive_any (w : World) (hK : KR w) :
    Calls Tryd.prog 8 #[] w fun e w' => e = .returned (.bool true) ∧ Below w.heap.size w w' := by
  go_enter Tryd.func8, Tryd.ntmps8
  go_wp2_with fail
  refine (print_abc w hK).mono ?_
  rintro e w1 ⟨rfl, hb1⟩
  go_wp2_with fail
  refine (hex_of_abc w1).mono ?_
  rintro e w2 ⟨rfl, hb2⟩
  have h := habc_eq
  go_wp2_with (go_at_call 13; refine (check_nine _).mono ?_; rintro e w3 ⟨rfl, rfl⟩)
  go_ret
  exact ⟨rfl, hb1.trans (hb2.mono hb1.size)⟩
end Go.Proofs.YtbbdlggbddaahaaDoor
