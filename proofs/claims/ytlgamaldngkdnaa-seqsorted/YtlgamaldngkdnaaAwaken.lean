/- awake answers true. -/
import Derived.Test.YtlgamaldngkdnaaAwake
namespace Go.Proofs.Ytlgamaldngkdnaa
open Go Go.RowKit

theorem enters32 : ∀ args w, (callFunc 32 args).run Try.prog w = .ok (.enter 32 args) w := enters_of Try.func32 (by kernel_rfl) rfl
theorem ofK_lt {b base : Nat} {v : Value} {xs : List Pr} {W : World} (h : OfG b base v xs W) : ∀ k, OfK b v k → k < W.heap.size := fun k hk => by
  rcases hk with rfl | hk
  · exact h.1.lt
  · exact (h.2.own k hk).2
def two : List Pr := [(⟨#[97]⟩, 1), (⟨#[98]⟩, 2)]
theorem two_rd (w : World) : Rd (w.alloc (.cells #[.string ⟨#[97]⟩, .int .i64 1, .string ⟨#[98]⟩, .int .i64 2] 30)) (some ⟨w.heap.size, 0, none⟩) two := by
  intro i hi
  have hh := World.alloc_heap_new w (.cells #[.string ⟨#[97]⟩, .int .i64 1, .string ⟨#[98]⟩, .int .i64 2] 30)
  refine ⟨w.heap.size, 0, rfl, ?_, ?_⟩
  all_goals
    rw [cell_of_row _ _ _ _ _ _ hh]
    match i, hi with
    | 0, _ => rfl
    | 1, _ => rfl
set_option maxRecDepth 100000 in
set_option maxHeartbeats 1000000 in
theorem awake_any (w : World) : Calls Try.prog 9 #[] w fun e w' => e = .returned (.bool true) ∧ Ch (fun _ => False) w w' := by
  go_enter Try.func9, Try.ntmps9
  go_wp2_with fail
  refine (pairs_any (some ⟨w.heap.size, 0, none⟩) 2 two (by decide) _ (two_rd w)).mono ?_
  rintro e w1 ⟨v1, rfl, ho1, hc1⟩
  have hw1 : Ch (fun _ => False) w w1 := (Ch.alloc _ w _).tr hc1
  clear hc1
  go_wp2_with fail
  refine (of_any _ v1 two (by decide) w1 ho1).mono ?_
  rintro e w2 ⟨b2, v2, rfl, hb2, hg2, hc2⟩
  have hw2 := hw1.tr hc2
  clear hw1 hc2 ho1
  unfold ofRun
  go_wp2_with fail
  refine (list_any enters32 (of_iter b2 _ v2 two (by decide)) (by decide) w2 (ofK_lt hg2) (fun k hk => hk.elim) (fun _ => ofG_stab _ _ _ _) (ofG_stab _ _ _ _) hg2).mono ?_
  rintro e w3 ⟨v3, rfl, ho3, _, hc3⟩
  have hw3 := hw2.tr hc3
  clear hw2 hc3 hg2
  obtain ⟨a3, cap3, rfl, hr3, _⟩ := ho3.rd
  obtain ⟨b3, off3, rfl, _, hv3⟩ := hr3 1 (by decide)
  have hl3 : two.length = 2 := rfl
  rw [hl3]
  have hv3' : w3.cell? ⟨b3, off3 + 1 * 2 + 1, none⟩ = some (.int .i64 2) := hv3
  clear hv3 hr3 ho3 hl3
  go_wp2_with fail
  have hd : D4 (w3.alloc (.cells #[.int .i64 2, .string ⟨#[97]⟩, .int .i64 1, .string ⟨#[98]⟩] 59)) w3.heap.size 2 ⟨#[97]⟩ 1 ⟨#[98]⟩ := by
    have hh := World.alloc_heap_new w3 (.cells #[.int .i64 2, .string ⟨#[97]⟩, .int .i64 1, .string ⟨#[98]⟩] 59)
    exact ⟨⟨by rw [cell_of_row _ _ _ _ _ _ hh]; rfl, by rw [cell_of_row _ _ _ _ _ _ hh]; rfl, by rw [cell_of_row _ _ _ _ _ _ hh]; rfl, by rw [cell_of_row _ _ _ _ _ _ hh]; rfl⟩, frozen_of_row _ _ _ _ _ hh, frozen_of_row _ _ _ _ _ hh, frozen_of_row _ _ _ _ _ hh, frozen_of_row _ _ _ _ _ hh⟩
  refine (sorted2 _ _ _ _ hd).mono ?_
  rintro e w4 ⟨g4, cap4, rfl, hg4, h4, hc4⟩
  have hw4 : Ch (fun _ => False) w w4 := (hw3.tr (Ch.alloc _ w3 _)).tr hc4
  have hv4 : w4.cell? ⟨b3, off3 + 1 * 2 + 1, none⟩ = some (.int .i64 2) := hc4.cell ((Ch.alloc (fun _ => False) w3 _).cell hv3' id) id
  clear hd hw3 hc4 hv3'
  obtain ⟨⟨c0, _⟩, _⟩ := h4
  go_wp2
  go_ret
  exact ⟨rfl, hw4⟩
end Go.Proofs.Ytlgamaldngkdnaa
