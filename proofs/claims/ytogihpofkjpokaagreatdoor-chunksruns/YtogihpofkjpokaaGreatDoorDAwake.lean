/- The walk of awake: a disk that answers. -/
import Derived.Test.YtogihpofkjpokaaGreatDoorDFall
namespace Go.Proofs.YtogihpofkjpokaaGreatDoor.D4
open Go Go.RowKit Go.Maps

/-- A disk of blocks from base on. -/
def Up (base : Nat) (w : World) (d : Nat) (l : Lg) : Prop := Dk w d l fun k => base ≤ k
theorem Up.keep {P : Nat → Prop} {base : Nat} {w w' : World} {d : Nat} {l : Lg} (h : Up base w d l) (hc : Ch P w w') (hs : ∀ k, base ≤ k → k < w.heap.size → ¬ P k) : Up base w' d l := by
  have h' : Dk w d l fun k => base ≤ k ∧ k < w.heap.size := Dk.mono h fun k hk h => ⟨h, hk⟩
  exact (h'.keep hc fun k hk => hs k hk.1 hk.2).mono fun k _ h => h.1
theorem new_up (w : World) (n : Int) (hn : 0 ≤ n) (hn2 : n ≤ 1073741824) :
    Calls Tryz.prog 9 #[.int .i64 n] w fun e w' => e = .returned (.tuple #[dp w.heap.size, .int .i64 0]) ∧ Up w.heap.size w' w.heap.size ⟨n, false, false, 0, []⟩ ∧ Below w.heap.size w w' ∧ w'.heap.size = w.heap.size + 1 := by
  refine (new_any w n hn hn2).mono ?_
  rintro e w' ⟨rfl, hA, hb, hz⟩
  refine ⟨rfl, ⟨_, hA, rfl, ?_⟩, hb, hz⟩
  rintro k (rfl | e | ⟨p, hp, _⟩)
  · exact Nat.le_refl _
  · cases e
  · cases hp
theorem append_up {base : Nat} {w : World} {d : Nat} {l : Lg} (h : Up base w d l) (hb : base ≤ w.heap.size) (n t : ByteArray) (hlen : l.fs.length < 1000000) (ht : t.size ≤ 1000000000) :
    Calls Tryz.prog 85 #[dp d, .string n, .string t] w fun e w' => e = .returned (.int .i64 (l.appC n.data.toList t.data.toList)) ∧ Up base w' d (l.app n.data.toList t.data.toList) ∧ Ch (fun k => base ≤ k) w w' := by
  refine (append_any h n t hlen ht).mono ?_
  rintro e w' ⟨rfl, hD, hc⟩
  exact ⟨rfl, hD.mono fun k _ hk => hk.elim id fun h => Nat.le_trans hb h.1, hc⟩
theorem sync_up {base : Nat} {w : World} {d : Nat} {l : Lg} (h : Up base w d l) (n : ByteArray) :
    Calls Tryz.prog 86 #[dp d, .string n] w fun e w' => e = .returned (.int .i64 (l.syncC n.data.toList)) ∧ Up base w' d (l.sync n.data.toList) ∧ Ch (fun k => base ≤ k) w w' := sync_any h n
theorem fall_nil {base : Nat} {w : World} {d : Nat} {l : Lg} (h : Up base w d l) (hlen : l.fs.length ≤ 1000000) :
    Calls Tryz.prog 15 #[dp d, .slice none 0 0] w fun e w' => e = .returned (.tuple #[]) ∧ Up base w' d (l.fall []) ∧ Ch (fun k => base ≤ k) w w' :=
  fall_any h hlen none 0 [] (fun i hi => absurd hi (by simp)) (fun ad e => by cases e)
/-- A fall by a slice that lies outside the disk. -/
theorem fall_up {base : Nat} {w : World} {d : Nat} {l : Lg} (h : Up base w d l) (hlen : l.fs.length ≤ 1000000) (P : Nat → Prop) (hP : ∀ k, base ≤ k → P k → False) (ka : Option Addr) (kc : Nat) (keep : List Int) (hK : RdI w ka keep) (hKF : ∀ ad, ka = some ad → P ad.block) :
    Calls Tryz.prog 15 #[dp d, .slice ka keep.length kc] w fun e w' => e = .returned (.tuple #[]) ∧ Up base w' d (l.fall keep) ∧ Ch (fun k => base ≤ k) w w' :=
  fall_any h hlen ka kc keep hK fun ad e _ hk => hP _ hk (hKF ad e)
/-- .. by a slice made for it. -/
theorem fall_new {base : Nat} {w : World} {d : Nat} {l : Lg} (h : Up base w d l) (hlen : l.fs.length ≤ 1000000) (k : Int) (t : TypeId) :
    Calls Tryz.prog 15 #[dp d, .slice (some ⟨w.heap.size, 0, none⟩) 1 1] (w.alloc (.cells #[.int .i64 k] t)) fun e w' => e = .returned (.tuple #[]) ∧ Up base w' d (l.fall [k]) ∧ Ch (fun k => base ≤ k) w w' := by
  have h' : Dk w d l fun k => base ≤ k ∧ k < w.heap.size := Dk.mono h fun k hk h => ⟨h, hk⟩
  refine (fall_any (h'.keep (Ch.alloc (fun _ => False) w (.cells #[.int .i64 k] t)) fun _ _ => id) hlen (some ⟨w.heap.size, 0, none⟩) 1 [k] ?_ ?_).mono ?_
  · intro i hi
    have : i = 0 := by simpa using hi
    subst this
    exact ⟨_, _, rfl, cell_of_row _ _ _ _ _ _ (heap_alloc_new w _)⟩
  · rintro ad e - ⟨_, h2⟩
    cases e
    exact Nat.lt_irrefl _ h2
  · rintro e w' ⟨rfl, hD, hc⟩
    exact ⟨rfl, hD.mono fun k _ h => h.1, (Ch.alloc _ _ _).tr (hc.mono fun k _ h => h.1)⟩

theorem down_up {base : Nat} {w : World} {d : Nat} {l : Lg} (h : Up base w d l) : Calls Tryz.prog 29 #[dp d] w fun e w' => e = .returned (.bool l.down) ∧ w' = w := by
  obtain ⟨s, hA, rfl, _⟩ := h
  exact down_any hA
theorem fuel_up {base : Nat} {w : World} {d : Nat} {l : Lg} (h : Up base w d l) (n : Int) (hn : -9223372036854775808 ≤ n ∧ n ≤ 9223372036854775807) :
    Calls Tryz.prog 27 #[dp d, .int .i64 n] w fun e w' => e = .returned (.tuple #[]) ∧ Up base w' d { l with lim := decide (0 ≤ n), fuel := n } ∧ Ch (fun k => base ≤ k) w w' := by
  obtain ⟨s, hA, rfl, hG⟩ := h
  refine (fuel_any hA n hn).mono ?_
  rintro e w' ⟨rfl, hA', hc⟩
  exact ⟨rfl, ⟨_, hA', rfl, fun k hk => hG k (Foot.head (s := s) rfl rfl hk)⟩, hc.mono fun k _ e => e ▸ hG d (.inl rfl)⟩
theorem room_up {base : Nat} {w : World} {d : Nat} {l : Lg} (h : Up base w d l) (n : Int) (hn : -9223372036854775808 ≤ n ∧ n ≤ 9223372036854775807) :
    Calls Tryz.prog 16 #[dp d, .int .i64 n] w fun e w' => e = .returned (.tuple #[]) ∧ Up base w' d { l with room := min (max n 0) 1073741824 } ∧ Ch (fun k => base ≤ k) w w' := by
  obtain ⟨s, hA, rfl, hG⟩ := h
  refine (room_any hA n hn).mono ?_
  rintro e w' ⟨rfl, hA', hc⟩
  exact ⟨rfl, ⟨_, hA', rfl, fun k hk => hG k (Foot.head (s := s) rfl rfl hk)⟩, hc.mono fun k _ e => e ▸ hG d (.inl rfl)⟩
end Go.Proofs.YtogihpofkjpokaaGreatDoor.D4
