/- The walk of the law DiskRuns. -/
import Derived.Test.YtceejjocimgbmaaAgree
namespace Go.Proofs.Ytceejjocimgbmaa
open Go Go.RowKit Go.Maps

set_option maxRecDepth 100000 in
theorem append_nil (n t : ByteArray) (w : World) : Calls Try.prog 10 #[.pointer none, .string n, .string t] w fun e w' => e = .returned (.int .i64 3) ∧ w' = w := by
  have HD := Lib.hid (down_nil w)
  go_enter Try.func10, Try.ntmps10
  go_wp2_with (go_at_call 9; (with_reducible refine HD.out.mono ?_); rintro e w1 ⟨rfl, rfl⟩)
  go_ret
  exact ⟨rfl, rfl⟩
/-- An act as it came in: where its numbers lie. -/
structure Xa where
  ac : Ac
  ka : Option Addr
  kc : Nat
def Xa.zero : Xa := ⟨⟨0, 0, ⟨#[]⟩, ⟨#[]⟩, []⟩, none, 0⟩
def xat (xs : List Xa) (i : Nat) : Xa := xs.getD i Xa.zero
def Xa.ok (x : Xa) : Prop := (-9223372036854775808 ≤ x.ac.n ∧ x.ac.n ≤ 9223372036854775807) ∧ (-9223372036854775808 ≤ x.ac.what ∧ x.ac.what ≤ 9223372036854775807) ∧ x.ac.name.size ≤ maxLen ∧ x.ac.to.size ≤ maxLen
/-- The slice of the address has these acts. -/
def RdA (w : World) (a : Option Addr) (xs : List Xa) : Prop :=
  ∀ i, i < xs.length → (∃ b off, a = some ⟨b, off, none⟩ ∧ w.cell? ⟨b, off + i * 5, none⟩ = some (.int .i64 (xat xs i).ac.what) ∧ w.cell? ⟨b, off + i * 5 + 1, none⟩ = some (.int .i64 (xat xs i).ac.n) ∧ w.cell? ⟨b, off + i * 5 + 2, none⟩ = some (.string (xat xs i).ac.name) ∧ w.cell? ⟨b, off + i * 5 + 3, none⟩ = some (.string (xat xs i).ac.to) ∧ w.cell? ⟨b, off + i * 5 + 4, none⟩ = some (.slice (xat xs i).ka (xat xs i).ac.keep.length (xat xs i).kc)) ∧
    RdI w (xat xs i).ka (xat xs i).ac.keep ∧ (∀ ad, (xat xs i).ka = some ad → (xat xs i).ac.keep ≠ [] → ad.block < w.heap.size) ∧ (xat xs i).ok
theorem RdA.keep {w V : World} {a : Option Addr} {xs : List Xa} (h : RdA w a xs) (hc : Ch (fun k => w.heap.size ≤ k) w V) : RdA V a xs := fun i hi => by
  obtain ⟨⟨b, off, ha, c0, c1, c2, c3, c4⟩, hI, hb, ho⟩ := h i hi
  have hl : ∀ {p : Addr} {v : Value}, w.cell? p = some v → V.cell? p = some v := fun {p v} hp => hc.cell hp (by have := World.block_lt_of_cell? _ _ hp; omega)
  exact ⟨⟨b, off, ha, hl c0, hl c1, hl c2, hl c3, hl c4⟩, hI.keep' hc fun ad e hne => by have := hb ad e hne; omega, fun ad e hne => Nat.lt_of_lt_of_le (hb ad e hne) hc.size, ho⟩
theorem start_T {w1 w2 w3 : World} {l0 : Lg} {u : Value} (h : Up w1.heap.size w2 w1.heap.size l0) (hz : w2.heap.size = w1.heap.size + 1) (hr : RAt w3 w2.heap.size l0 u) (hu : u.ownBlock = none) (hb : Below w2.heap.size w2 w3) (hz3 : w3.heap.size = w2.heap.size + 1) : T (fun _ => False) w1.heap.size w3 w3 w1.heap.size w2.heap.size l0 l0 := by
  have h' : Dk w2 w1.heap.size l0 fun k => w1.heap.size ≤ k ∧ k < w2.heap.size := Dk.mono h fun k hk h => ⟨h, hk⟩
  refine ⟨⟨fun k => w1.heap.size ≤ k ∧ k < w2.heap.size, fun k => k = w2.heap.size, h'.new hb, ⟨u, hr, rfl, fun k hk => by rw [hu] at hk; cases hk⟩, fun k h1 h2 => by omega, fun k h1 => ⟨h1.1, id, by omega⟩, fun k h1 => ⟨by omega, id, by omega⟩⟩, Ch.refl _ _, fun k h => h.elim, by omega⟩
theorem fine0 (n : Int) : (⟨n, false, false, 0, []⟩ : Lg).Fine := fun h => by cases h

set_option maxRecDepth 100000 in
set_option maxHeartbeats 4000000 in
theorem diskRuns_out (room : Int) (hro : room < 0 ∨ 1073741824 < room) (a0 : Option Addr) (len cap : Nat) (w : World) :
    Calls Try.prog 3 #[.int .i64 room, .slice a0 len cap] w fun e w' => e = .returned (.bool true) ∧ Below w.heap.size w w' := by
  have H1 := Lib.hid (awake_any w)
  have H2 := Lib.hid (fun W => new_not W room hro)
  have H3 := Lib.hid (append_nil ⟨#[97]⟩ ⟨#[]⟩)
  have H4 := Lib.hid down_nil
  have H5 := Lib.hid names_nil
  rcases hro with h | h
  · go_enter Try.func3, Try.ntmps3
    go_wp2_with (first
      | (go_at_call 7; (with_reducible refine H1.out.mono ?_); rintro e w1 ⟨rfl, b1⟩)
      | (go_at_call 8; (with_reducible refine (H2.out _).mono ?_); rintro e w2 ⟨rfl, rfl⟩)
      | (go_at_call 10; (with_reducible refine (H3.out _).mono ?_); rintro e w2 ⟨rfl, rfl⟩)
      | (go_at_call 9; (with_reducible refine (H4.out _).mono ?_); rintro e w2 ⟨rfl, rfl⟩)
      | (go_at_call 11; (with_reducible refine (H5.out _).mono ?_); rintro e w2 ⟨rfl, rfl⟩))
    go_ret
    exact ⟨rfl, b1⟩
  · have h0 : (0 : Int) ≤ room := by omega
    go_enter Try.func3, Try.ntmps3
    go_wp2_with (first
      | (go_at_call 7; (with_reducible refine H1.out.mono ?_); rintro e w1 ⟨rfl, b1⟩)
      | (go_at_call 8; (with_reducible refine (H2.out _).mono ?_); rintro e w2 ⟨rfl, rfl⟩)
      | (go_at_call 10; (with_reducible refine (H3.out _).mono ?_); rintro e w2 ⟨rfl, rfl⟩)
      | (go_at_call 9; (with_reducible refine (H4.out _).mono ?_); rintro e w2 ⟨rfl, rfl⟩)
      | (go_at_call 11; (with_reducible refine (H5.out _).mono ?_); rintro e w2 ⟨rfl, rfl⟩))
    go_ret
    exact ⟨rfl, b1⟩
set_option maxRecDepth 100000 in
set_option maxHeartbeats 8000000 in
theorem diskRuns_in (room : Int) (hr0 : 0 ≤ room) (hr1 : room ≤ 1073741824) (a0 : Option Addr) (cap : Nat) (xs : List Xa) (hx : xs.length ≤ maxLen) (w : World) (hR : RdA w a0 xs) :
    Calls Try.prog 3 #[.int .i64 room, .slice a0 xs.length cap] w fun e w' => e = .returned (.bool true) ∧ Below w.heap.size w w' := by
  have H1 := Lib.hid (awake_any w)
  have H2 := Lib.hid (fun W => new_up W room hr0 hr1)
  have H3 := Lib.hid (fun W => rnew_any W room)
  have HR := Lib.hid hR
  clear hR
  unfold maxLen at hx
  have hxI : (xs.length : Int) ≤ 9223372036854775807 := by omega
  unfold dp at H2 H3
  go_enter Try.func3, Try.ntmps3
  go_wp2_with (first
    | (go_at_call 7; (with_reducible refine H1.out.mono ?_); rintro e w1 ⟨rfl, b1⟩; have z1 := b1.size)
    | (go_at_call 8; (with_reducible refine (H2.out _).mono ?_); rintro e w2 ⟨rfl, h2, b2, z2⟩; have Z2 := Lib.hid z2; clear z2)
    | (go_at_call 12; (with_reducible refine (H3.out _).mono ?_); rintro e w3 ⟨rfl, h3, b3, z3⟩; have Z3 := Lib.hid z3; clear z3))
  have HT0 : Hid (T (fun k => k = w3.heap.size) w1.heap.size (w3.alloc (.cells #[.pointer (some ⟨w1.heap.size, 0, none⟩), .pointer (some ⟨w2.heap.size, 0, none⟩)] 34)) (w3.alloc (.cells #[.pointer (some ⟨w1.heap.size, 0, none⟩), .pointer (some ⟨w2.heap.size, 0, none⟩)] 34)) w1.heap.size w2.heap.size ⟨room, false, false, 0, []⟩ ⟨room, false, false, 0, []⟩) :=
    Lib.hid ((start_T h2 Z2.out h3 rfl b3 Z3.out).push ((Below.refl _ _).alloc (Nat.le_refl _) _) fun k hk => .inr (by rw [hk]; simp))
  have hrow : (w3.alloc (.cells #[.pointer (some ⟨w1.heap.size, 0, none⟩), .pointer (some ⟨w2.heap.size, 0, none⟩)] 34)).heap[w3.heap.size]? = some (.cells #[.pointer (some ⟨w1.heap.size, 0, none⟩), .pointer (some ⟨w2.heap.size, 0, none⟩)] 34 (0, 0)) := heap_alloc_new w3 _
  have HROW := Lib.hid hrow
  have hbw : Below w.heap.size w (w3.alloc (.cells #[.pointer (some ⟨w1.heap.size, 0, none⟩), .pointer (some ⟨w2.heap.size, 0, none⟩)] 34)) := by
    have hz2 := Z2.out
    have hz3 := Z3.out
    exact Below.trans (Below.trans (Below.trans b1 (b2.mono z1)) (b3.mono (by omega))) (((Below.refl _ _).alloc (Nat.le_refl _) _).mono (by omega))
  have HBW := Lib.hid hbw
  clear hrow hbw h2 h3 b2 b3 Z2 Z3 H1 H2 H3 b1
  generalize w3.alloc (.cells #[.pointer (some ⟨w1.heap.size, 0, none⟩), .pointer (some ⟨w2.heap.size, 0, none⟩)] 34) = W3 at *
  generalize w3.heap.size = bx at *
  generalize w2.heap.size = r at *
  generalize w1.heap.size = d at *
  have HDo := Lib.hid (fun V l (hV : T (fun k => k = bx) d W3 V d r l l) (hf : l.Fine) (hlen : l.fs.length ≤ 1000) => do_any hV hf hlen)
  have HAg := Lib.hid (fun V l (hV : T (fun k => k = bx) d W3 V d r l l) (hf : l.Fine) (hlen : l.fs.length ≤ 1000) => agree_any hV hf hlen)
  have HBx := Lib.hid (fun V l (hV : T (fun k => k = bx) d W3 V d r l l) => hV.block HROW.out (.inr rfl))
  have HXs : Hid (∀ V l, T (fun k => k = bx) d W3 V d r l l → RdA V a0 xs) := Lib.hid fun V l hV => by
    exact HR.out.keep ((Ch.of_below HBW.out).tr (hV.ch.mono fun k _ h => Nat.le_trans z1 h.1))
  have HKd : Hid (∀ i, i < xs.length → ∀ ad, (xat xs i).ka = some ad → (xat xs i).ac.keep ≠ [] → ad.block < d) := Lib.hid fun i hi ad e hne => Nat.lt_of_lt_of_le ((HR.out i hi).2.2.1 ad e hne) z1
  unfold Ac.val dp at HDo
  unfold dp at HAg
  clear HROW HR
  go_loopw [52] (fun i wr => ∃ (ii : Nat) (l : Lg), i = .int .i64 (ii : Int) ∧ ii ≤ xs.length ∧ ii ≤ 60 ∧ Hid (l.Fine ∧ l.fs.length ≤ ii ∧ T (fun k => k = bx) d W3 wr d r l l)) (fun i _ => xs.length - (intOf i).toNat)
  case atStart => exact ⟨0, _, rfl, Nat.zero_le _, Nat.zero_le _, Lib.hid ⟨fine0 _, Nat.le_refl _, HT0.out⟩⟩
  case round =>
    clear HT0
    obtain ⟨ii, l, rfl, hi, hi60, HI⟩ := hrel
    have hB := HBx.out _ _ HI.out.2.2
    have s0 : wr.cell? ⟨bx, 0, none⟩ = some (.pointer (some ⟨d, 0, none⟩)) := cell_of_row _ _ _ _ _ _ hB
    have s1 : wr.cell? ⟨bx, 1, none⟩ = some (.pointer (some ⟨r, 0, none⟩)) := cell_of_row _ _ _ _ _ _ hB
    have HAG := Lib.hid (HAg.out _ _ HI.out.2.2 HI.out.1 (by have := HI.out.2.1; omega))
    clear hB
    have HEnd : Hid (∀ V, Below wr.heap.size wr V → Below w.heap.size w V) := Lib.hid fun V hV => by
      have h1 := HI.out.2.2.ch
      have h2 : Ch (fun k => w.heap.size ≤ k) w wr := (Ch.of_below HBW.out).tr (h1.mono fun k _ h => Nat.le_trans z1 h.1)
      exact Ch.below (h2.tr (Ch.of_new hV)) (Nat.le_refl _) fun k hk h => by omega
    by_cases hlt : ii < xs.length
    · have hlt' : (ii : Int) < (xs.length : Int) := by omega
      have hi0 : (0 : Int) ≤ (ii : Int) := by omega
      obtain ⟨⟨b, off, rfl, k0, k1, k2, k3, k4⟩, hI, -, hok⟩ := HXs.out _ _ HI.out.2.2 ii hlt
      have HKD := Lib.hid (HKd.out ii hlt)
      have HII := Lib.hid hI
      have HOK := Lib.hid hok
      obtain ⟨⟨ac, ka, kc⟩, hxe⟩ : ∃ x, xat xs ii = x := ⟨_, rfl⟩
      rw [hxe] at k0 k1 k2 k3 k4 HKD HII HOK
      simp only at k0 k1 k2 k3 k4
      obtain ⟨hn, hw, hs1, hs2⟩ := HOK.out
      simp only at hn hw hs1 hs2
      unfold maxLen at hs1 hs2
      have hs1' : (ac.name.size : Int) ≤ 9223372036854775807 := by omega
      have hs2' : (ac.to.size : Int) ≤ 9223372036854775807 := by omega
      clear hI hok hxe HOK
      have HAL : Hid (∀ o, T (fun k => k = bx) d W3 (wr.alloc o) d r l l) := Lib.hid fun o => HI.out.2.2.new ((Below.refl _ _).alloc (Nat.le_refl _) o)
      have t0 : ∀ o, (wr.alloc o).cell? ⟨bx, 0, none⟩ = some (.pointer (some ⟨d, 0, none⟩)) := fun o => (Ch.alloc (fun _ => False) wr o).cell s0 id
      have t1 : ∀ o, (wr.alloc o).cell? ⟨bx, 1, none⟩ = some (.pointer (some ⟨r, 0, none⟩)) := fun o => (Ch.alloc (fun _ => False) wr o).cell s1 id
      have HLN : Hid (l.fs.length ≤ 1000) := Lib.hid (by have := HI.out.2.1; omega)
      by_cases h60 : ii = 60
      · have h60' : ((ii : Int) == 60) = true := by rw [beq_iff_eq]; omega
        clear hi60 h60
        go_wp2_with (go_at_call 14; (with_reducible refine (HAg.out _ _ (HAL.out _) HI.out.1 HLN.out).mono ?_); rintro e w4 ⟨rfl, hb4⟩)
        go_ret
        refine ⟨rfl, HEnd.out _ (Below.trans ((Below.refl _ _).alloc (Nat.le_refl _) _) (hb4.mono ?_))⟩
        simp
      · have h60' : ((ii : Int) == 60) = false := by rw [beq_eq_false_iff_ne]; omega
        have hi59 : ii ≤ 59 := by omega
        clear hi60 h60
        by_cases hb1 : 200 < ac.name.size
        · have hb1' : (200 : Int) < (ac.name.size : Int) := by omega
          clear hs1 hs2 hb1
          go_wp2
          go_ret
          exact ⟨rfl, HEnd.out _ ((Below.refl _ _).alloc (Nat.le_refl _) _)⟩
        · have hb1' : (ac.name.size : Int) ≤ 200 := by omega
          by_cases hb2 : 200 < ac.to.size
          · have hb2' : (200 : Int) < (ac.to.size : Int) := by omega
            clear hs1 hs2 hb1 hb2
            go_wp2
            go_ret
            exact ⟨rfl, HEnd.out _ ((Below.refl _ _).alloc (Nat.le_refl _) _)⟩
          · have hb2' : (ac.to.size : Int) ≤ 200 := by omega
            have HGo := Lib.hid (fun o => HDo.out _ _ (HAL.out o) HI.out.1 HLN.out ac (by omega) hn hw ka kc (HII.out.keep (Ch.alloc (fun _ => False) wr o) fun _ _ => id) HKD.out)
            have HF2 := Lib.hid (act_fine HI.out.1 ac)
            have HL2 : Hid ((l.act ac).fs.length ≤ ii + 1) := Lib.hid (Nat.le_trans (act_len l ac) (by have := HI.out.2.1; omega))
            generalize l.act ac = l2 at *
            clear hs1 hs2 hb1 hb2 hn hw
            go_wp2_with (first
              | (go_at_call 13; (with_reducible refine (HGo.out _).mono ?_); rintro e w4 ⟨rfl, h4⟩; have H4 := Lib.hid h4; have hB4 := HBx.out _ _ h4; have y0 : w4.cell? ⟨bx, 0, none⟩ = some (.pointer (some ⟨d, 0, none⟩)) := cell_of_row _ _ _ _ _ _ hB4; have y1 : w4.cell? ⟨bx, 1, none⟩ = some (.pointer (some ⟨r, 0, none⟩)) := cell_of_row _ _ _ _ _ _ hB4; clear h4 hB4)
              | (go_at_call 14; (with_reducible refine (HAg.out _ _ H4.out HF2.out (by have := HL2.out; omega)).mono ?_); rintro e w5 ⟨rfl, hb5⟩))
            go_roundw
            case rel => exact ⟨ii + 1, l2, by go_num, by omega, by omega, Lib.hid ⟨HF2.out, HL2.out, H4.out.new hb5⟩⟩
            case measure => simp [intOf]; omega
    · have hlt' : (xs.length : Int) ≤ (ii : Int) := by omega
      go_wp2_with (go_at_call 14; (with_reducible refine HAG.out.mono ?_); rintro e w4 ⟨rfl, hb4⟩)
      go_ret
      exact ⟨rfl, HEnd.out _ hb4⟩
end Go.Proofs.Ytceejjocimgbmaa
