/- The walk of awake: a disk that answers. -/
import Derived.Test.YtceejjocimgbmaaFall
namespace Go.Proofs.Ytceejjocimgbmaa
open Go Go.RowKit Go.Maps

/-- A disk of blocks from base on. -/
def Up (base : Nat) (w : World) (d : Nat) (l : Lg) : Prop := Dk w d l fun k => base ≤ k
theorem Up.keep {P : Nat → Prop} {base : Nat} {w w' : World} {d : Nat} {l : Lg} (h : Up base w d l) (hc : Ch P w w') (hs : ∀ k, base ≤ k → k < w.heap.size → ¬ P k) : Up base w' d l := by
  have h' : Dk w d l fun k => base ≤ k ∧ k < w.heap.size := Dk.mono h fun k hk h => ⟨h, hk⟩
  exact (h'.keep hc fun k hk => hs k hk.1 hk.2).mono fun k _ h => h.1
theorem new_up (w : World) (n : Int) (hn : 0 ≤ n) (hn2 : n ≤ 1073741824) :
    Calls Try.prog 8 #[.int .i64 n] w fun e w' => e = .returned (.tuple #[dp w.heap.size, .int .i64 0]) ∧ Up w.heap.size w' w.heap.size ⟨n, false, false, 0, []⟩ ∧ Below w.heap.size w w' ∧ w'.heap.size = w.heap.size + 1 := by
  refine (new_any w n hn hn2).mono ?_
  rintro e w' ⟨rfl, hA, hb, hz⟩
  refine ⟨rfl, ⟨_, hA, rfl, ?_⟩, hb, hz⟩
  rintro k (rfl | e | ⟨p, hp, _⟩)
  · exact Nat.le_refl _
  · cases e
  · cases hp
theorem append_up {base : Nat} {w : World} {d : Nat} {l : Lg} (h : Up base w d l) (hb : base ≤ w.heap.size) (n t : ByteArray) (hlen : l.fs.length < 1000000) (ht : t.size ≤ 1000000000) :
    Calls Try.prog 10 #[dp d, .string n, .string t] w fun e w' => e = .returned (.int .i64 (l.appC n.data.toList t.data.toList)) ∧ Up base w' d (l.app n.data.toList t.data.toList) ∧ Ch (fun k => base ≤ k) w w' := by
  refine (append_any h n t hlen ht).mono ?_
  rintro e w' ⟨rfl, hD, hc⟩
  exact ⟨rfl, hD.mono fun k _ hk => hk.elim id fun h => Nat.le_trans hb h.1, hc⟩
theorem sync_up {base : Nat} {w : World} {d : Nat} {l : Lg} (h : Up base w d l) (n : ByteArray) :
    Calls Try.prog 15 #[dp d, .string n] w fun e w' => e = .returned (.int .i64 (l.syncC n.data.toList)) ∧ Up base w' d (l.sync n.data.toList) ∧ Ch (fun k => base ≤ k) w w' := sync_any h n
theorem fall_nil {base : Nat} {w : World} {d : Nat} {l : Lg} (h : Up base w d l) (hlen : l.fs.length ≤ 1000000) :
    Calls Try.prog 16 #[dp d, .slice none 0 0] w fun e w' => e = .returned (.tuple #[]) ∧ Up base w' d (l.fall []) ∧ Ch (fun k => base ≤ k) w w' :=
  fall_any h hlen none 0 [] (fun i hi => absurd hi (by simp)) (fun ad e => by cases e)
/-- A fall by a slice that lies outside the disk. -/
theorem fall_up {base : Nat} {w : World} {d : Nat} {l : Lg} (h : Up base w d l) (hlen : l.fs.length ≤ 1000000) (P : Nat → Prop) (hP : ∀ k, base ≤ k → P k → False) (ka : Option Addr) (kc : Nat) (keep : List Int) (hK : RdI w ka keep) (hKF : ∀ ad, ka = some ad → P ad.block) :
    Calls Try.prog 16 #[dp d, .slice ka keep.length kc] w fun e w' => e = .returned (.tuple #[]) ∧ Up base w' d (l.fall keep) ∧ Ch (fun k => base ≤ k) w w' :=
  fall_any h hlen ka kc keep hK fun ad e _ hk => hP _ hk (hKF ad e)
/-- .. by a slice made for it. -/
theorem fall_new {base : Nat} {w : World} {d : Nat} {l : Lg} (h : Up base w d l) (hlen : l.fs.length ≤ 1000000) (k : Int) (t : TypeId) :
    Calls Try.prog 16 #[dp d, .slice (some ⟨w.heap.size, 0, none⟩) 1 1] (w.alloc (.cells #[.int .i64 k] t)) fun e w' => e = .returned (.tuple #[]) ∧ Up base w' d (l.fall [k]) ∧ Ch (fun k => base ≤ k) w w' := by
  have h' : Dk w d l fun k => base ≤ k ∧ k < w.heap.size := Dk.mono h fun k hk h => ⟨h, hk⟩
  refine (fall_any (h'.keep (Ch.alloc (fun _ => False) w (.cells #[.int .i64 k] t)) fun _ _ => id) hlen (some ⟨w.heap.size, 0, none⟩) 1 [k] ?_ ?_).mono ?_
  · intro i hi
    have : i = 0 := by simpa using hi
    subst this
    exact ⟨_, _, rfl, cell_of_row _ _ _ _ _ _ (heap_alloc_new w _)⟩
  · rintro ad e - ⟨_, h2⟩
    cases e
    exact Nat.lt_irrefl _ h2
  · rintro e w' ⟨rfl, hD, hc⟩
    exact ⟨rfl, hD.mono fun k _ h => h.1, (Ch.alloc _ _ _).tr (hc.mono fun k _ h => h.1)⟩

def la : Lg := ⟨100, false, false, 0, []⟩
def lb : Lg := ⟨100, false, false, 0, [([97], ([120, 121], 0))]⟩
def lc : Lg := ⟨100, false, false, 0, [([97], ([120, 121], 2))]⟩
def le : Lg := ⟨100, false, false, 0, [([97], ([120, 121, 122], 2))]⟩
theorem la_app : la.app [97] [120, 121] = lb := by rfl
theorem lb_sync : lb.sync [97] = lc := by rfl
theorem lc_app : lc.app [97] [122] = le := by rfl
theorem le_fall : le.fall [] = lc := by rfl

set_option maxRecDepth 100000 in
set_option maxHeartbeats 4000000 in
theorem awake_any (w : World) : Calls Try.prog 7 #[] w fun e w' => e = .returned (.bool true) ∧ Below w.heap.size w w' := by
  have H1 := Lib.hid (new_up w 100 (by omega) (by omega))
  have H2 : Hid (∀ W, w.heap.size ≤ W.heap.size → Up w.heap.size W w.heap.size la → Calls Try.prog 10 #[dp w.heap.size, .string ⟨#[97]⟩, .string ⟨#[120, 121]⟩] W fun e w' => e = .returned (.int .i64 0) ∧ Up w.heap.size w' w.heap.size lb ∧ Ch (fun k => w.heap.size ≤ k) W w') := Lib.hid fun W hW h => append_up h hW ⟨#[97]⟩ ⟨#[120, 121]⟩ (by decide) (by decide)
  have H3 : Hid (∀ W, Up w.heap.size W w.heap.size lb → Calls Try.prog 15 #[dp w.heap.size, .string ⟨#[97]⟩] W fun e w' => e = .returned (.int .i64 0) ∧ Up w.heap.size w' w.heap.size lc ∧ Ch (fun k => w.heap.size ≤ k) W w') := Lib.hid fun W h => sync_up h ⟨#[97]⟩
  have H4 : Hid (∀ W, w.heap.size ≤ W.heap.size → Up w.heap.size W w.heap.size lc → Calls Try.prog 10 #[dp w.heap.size, .string ⟨#[97]⟩, .string ⟨#[122]⟩] W fun e w' => e = .returned (.int .i64 0) ∧ Up w.heap.size w' w.heap.size le ∧ Ch (fun k => w.heap.size ≤ k) W w') := Lib.hid fun W hW h => append_up h hW ⟨#[97]⟩ ⟨#[122]⟩ (by decide) (by decide)
  have H5 : Hid (∀ W, Up w.heap.size W w.heap.size le → Calls Try.prog 16 #[dp w.heap.size, .slice none 0 0] W fun e w' => e = .returned (.tuple #[]) ∧ Up w.heap.size w' w.heap.size lc ∧ Ch (fun k => w.heap.size ≤ k) W w') := Lib.hid fun W h => fall_nil h (by decide)
  have H6 : Hid (∀ W, Up w.heap.size W w.heap.size lc → Calls Try.prog 17 #[dp w.heap.size, .string ⟨#[97]⟩] W fun e w' => e = .returned (.tuple #[.string ⟨#[120, 121]⟩, .int .i64 0]) ∧ w' = W) := Lib.hid fun W h => read_any h ⟨#[97]⟩
  have H7 : Hid (∀ W, w.heap.size ≤ W.heap.size → Up w.heap.size W w.heap.size lc → Calls Try.prog 10 #[dp w.heap.size, .string ⟨#[65]⟩, .string ⟨#[]⟩] W fun e w' => e = .returned (.int .i64 1) ∧ Up w.heap.size w' w.heap.size lc ∧ Ch (fun k => w.heap.size ≤ k) W w') := Lib.hid fun W hW h => append_up h hW ⟨#[65]⟩ ⟨#[]⟩ (by decide) (by decide)
  unfold dp at H1 H2 H3 H4 H5 H6 H7
  go_enter Try.func7, Try.ntmps7
  go_wp2_with (first
    | (go_at_call 8; (with_reducible refine H1.out.mono ?_); rintro e w1 ⟨rfl, h1, b1, z1⟩)
    | (go_at_call 10; (with_reducible refine (H2.out _ (by omega) h1).mono ?_); rintro e w2 ⟨rfl, h2, b2⟩; have z2 := b2.size; clear H2)
    | (go_at_call 15; (with_reducible refine (H3.out _ h2).mono ?_); rintro e w3 ⟨rfl, h3, b3⟩; have z3 := b3.size)
    | (go_at_call 10; (with_reducible refine (H4.out _ (by omega) h3).mono ?_); rintro e w4 ⟨rfl, h4, b4⟩; have z4 := b4.size; clear H4)
    | (go_at_call 16; (with_reducible refine (H5.out _ h4).mono ?_); rintro e w5 ⟨rfl, h5, b5⟩; have z5 := b5.size)
    | (go_at_call 17; (with_reducible refine (H6.out _ h5).mono ?_); rintro e w6 ⟨rfl, rfl⟩)
    | (go_at_call 10; (with_reducible refine (H7.out _ (by omega) h5).mono ?_); rintro e w7 ⟨rfl, h7, b7⟩; have z7 := b7.size))
  go_ret
  refine ⟨rfl, ?_⟩
  refine Ch.below ((((((Ch.of_new b1).tr b2).tr b3).tr b4).tr b5).tr b7) (Nat.le_refl _) ?_
  intro k hk h
  omega
theorem down_up {base : Nat} {w : World} {d : Nat} {l : Lg} (h : Up base w d l) : Calls Try.prog 9 #[dp d] w fun e w' => e = .returned (.bool l.down) ∧ w' = w := by
  obtain ⟨s, hA, rfl, _⟩ := h
  exact down_any hA
theorem used_up {base : Nat} {w : World} {d : Nat} {l : Lg} (h : Up base w d l) : Calls Try.prog 19 #[dp d] w fun e w' => e = .returned (.int .i64 (l.used : Int)) ∧ w' = w := by
  obtain ⟨s, hA, rfl, _⟩ := h
  rw [used_lg, ← hA.used]
  exact used_any hA
theorem fuel_up {base : Nat} {w : World} {d : Nat} {l : Lg} (h : Up base w d l) (n : Int) (hn : -9223372036854775808 ≤ n ∧ n ≤ 9223372036854775807) :
    Calls Try.prog 18 #[dp d, .int .i64 n] w fun e w' => e = .returned (.tuple #[]) ∧ Up base w' d { l with lim := decide (0 ≤ n), fuel := n } ∧ Ch (fun k => base ≤ k) w w' := by
  obtain ⟨s, hA, rfl, hG⟩ := h
  refine (fuel_any hA n hn).mono ?_
  rintro e w' ⟨rfl, hA', hc⟩
  exact ⟨rfl, ⟨_, hA', rfl, fun k hk => hG k (Foot.head (s := s) rfl rfl hk)⟩, hc.mono fun k _ e => e ▸ hG d (.inl rfl)⟩
theorem room_up {base : Nat} {w : World} {d : Nat} {l : Lg} (h : Up base w d l) (n : Int) (hn : -9223372036854775808 ≤ n ∧ n ≤ 9223372036854775807) :
    Calls Try.prog 33 #[dp d, .int .i64 n] w fun e w' => e = .returned (.tuple #[]) ∧ Up base w' d { l with room := min (max n 0) 1073741824 } ∧ Ch (fun k => base ≤ k) w w' := by
  obtain ⟨s, hA, rfl, hG⟩ := h
  refine (room_any hA n hn).mono ?_
  rintro e w' ⟨rfl, hA', hc⟩
  exact ⟨rfl, ⟨_, hA', rfl, fun k hk => hG k (Foot.head (s := s) rfl rfl hk)⟩, hc.mono fun k _ e => e ▸ hG d (.inl rfl)⟩
end Go.Proofs.Ytceejjocimgbmaa
