/- The walks of prints, framed, framesOf. -/
import Derived.Test.YtogihpofkjpokaaGreatDoorCMap
namespace Go.Proofs.YtogihpofkjpokaaGreatDoor
open Go Go.RowKit Go.Maps
open D4 (put Asc RdS before_ne look_mem asc_ext)
open F5 (txt txt_size txt_data data_txt OwT RdT frameL flat sv)

theorem owT_of {w : World} {base : Nat} {v : Value} {xs : List (List UInt8)} (h : w.ownsRow base 9 1 v xs.length (xs.map encStr)) : OwT w base v xs := h
theorem OwT_nil (w : World) (base : Nat) : OwT w base (.slice none 0 0) [] := World.ownsRow_nil _ _ _ _
theorem OwT_low {w : World} {base base' : Nat} {v : Value} {xs : List (List UInt8)} (h : OwT w base v xs) (hb : base' ≤ base) : OwT w base' v xs := by
  refine ⟨h.1, ?_⟩
  rcases h.2 with h2 | ⟨g, cap, cur, hv, hg, r⟩
  · exact .inl h2
  · exact .inr ⟨g, cap, cur, hv, Nat.le_trans hb hg, r⟩
/-- What a builder's writes leave of a slice of texts. -/
theorem OwT_others {w w' : World} {base b : Nat} {v : Value} {xs : List (List UInt8)} (h : OwT w base v xs) (ho : Lib.OthersKept 5 (some b) w w') (hn : v.ownBlock ≠ some b) : OwT w' base v xs := by
  refine ⟨h.1, ?_⟩
  rcases h.2 with h2 | ⟨g, cap, cur, hv, hb, hg, r⟩
  · exact .inl h2
  · exact .inr ⟨g, cap, cur, hv, hb, ho g _ hg (fun e => hn (by rw [hv, ← e]; rfl)) (fun c fz e => by injection e with _ e2; cases e2), r⟩
set_option maxRecDepth 100000 in
set_option maxHeartbeats 1000000 in
/-- The fingerprints of a pile, rising. -/
theorem prints_any {w : World} {m : Option Nat} {l : Tx} (h : Pile w m l) (hlen : l.length ≤ 1000000) :
    Calls Tryz.prog 40 #[.map m] w fun e w' => ∃ v, e = .returned v ∧ OwT w' w.heap.size v (l.map (·.1)) ∧ Below w.heap.size w w' := by
  have HK := Lib.hid (callsIn_wide.1 (Tryz.maps_Keys_pile m w))
  have HS : Hid (Calls Tryz.prog 48 #[.func (.func 88) #[] #[.pointer (some ⟨w.heap.size, 0, none⟩)]] (w.alloc (.cells #[.map m] 71)) fun e w' => ∃ v, e = .returned v ∧ OwT w' w.heap.size v (l.map (·.1)) ∧ Below w.heap.size w w') := Lib.hid (by
    have hB : Below w.heap.size w (w.alloc (.cells #[.map m] 71)) := (Below.refl _ _).alloc (Nat.le_refl _) _
    have hz : w.heap.size ≤ (w.alloc (.cells #[.map m] 71)).heap.size := hB.size
    cases hm : m with
    | none =>
      rw [hm] at hB hz
      refine (callsIn_wide.1 (Tryz.slices_Sorted_keys_nil_pile w)).mono ?_
      rintro e w' ⟨v, ss, rfl, rfl, hO, hn, hb⟩
      rw [hn.2 rfl, h.nomap hm]
      exact ⟨_, rfl, OwT_nil _ _, hB.trans (hb.mono hz)⟩
    | some b =>
      rw [hm] at hB hz
      have ho := h.map b hm
      refine (callsIn_wide.1 (Tryz.slices_Sorted_keys_pile b _ _ rdC w ho (by rw [datT_size]; unfold maxLen; omega) (by rw [datT_size]; omega))).mono ?_
      rintro e w' ⟨v, ss, rfl, hp, hO, hn, hb⟩
      rw [datT_keys] at hp
      rw [D4.sorted_names h.asc hp] at hO
      have hl := hp.length_eq
      rw [hl] at hO
      refine ⟨v, rfl, ?_, hB.trans (hb.mono hz)⟩
      have hO' := owT_of hO
      exact OwT_low hO' hz)
  go_enter Tryz.func40, Tryz.ntmps40
  go_wp2_with (first | (go_at_call 66; (with_reducible refine HK.out.mono ?_); rintro e w1 ⟨rfl, rfl⟩) | (go_at_call 48; (with_reducible refine HS.out.mono ?_); rintro e w1 ⟨v, rfl, ho, hb⟩))
  go_ret
  exact ⟨v, rfl, ho, hb⟩

/-- A frame of a tag and a text. -/
def fr (b : UInt8) (t : List UInt8) : List UInt8 := frameL (b :: t)
theorem cat1 (b : UInt8) (t : List UInt8) (h : t.length ≤ 100000) : binOp .add 9 (.string ⟨#[b]⟩) (.string (txt t)) = pure (.string (txt (b :: t))) := F5.cat [b] t (by simp; omega)
set_option maxRecDepth 100000 in
set_option maxHeartbeats 1000000 in
theorem framed_any (b : UInt8) (t : List UInt8) (h : t.length ≤ 90000) (w : World) :
    Calls Tryz.prog 62 #[.string ⟨#[b]⟩, .string (txt t)] w fun e w' => e = .returned (.string (txt (fr b t))) ∧ Below w.heap.size w w' := by
  have P := Lib.hid (F5.wrap_any (b :: t) (by simp; omega))
  have c := cat1 b t (by omega)
  unfold fr
  generalize txt (frameL (b :: t)) = r at P ⊢
  generalize txt (b :: t) = x at P c
  generalize txt t = y at c ⊢
  go_enter Tryz.func62, Tryz.ntmps62
  go_wp2_with (go_at_call 83; (with_reducible refine (P.out _).mono ?_); rintro e w1 ⟨rfl, hb⟩)
  go_ret
  exact ⟨rfl, hb⟩
end Go.Proofs.YtogihpofkjpokaaGreatDoor
