/- The walk of the law DiskApart. -/
import Derived.Test.YtceejjocimgbmaaRuns
namespace Go.Proofs.Ytceejjocimgbmaa
open Go Go.RowKit Go.Maps

def oth : ByteArray := ⟨#[111, 116, 104, 101, 114]⟩
theorem oth_ne {x : ByteArray} (h : ¬ x = oth) : ¬ x.toList = [111, 116, 104, 101, 114] := fun e => h (by
  rw [ByteArray.toList_eq] at e
  have := congrArg txt e
  rwa [txt_data] at this)
theorem name_oth : nameB oth.data.toList = true := by decide
/-- The file other has these bytes, and the disk is up, without a limit. -/
structure Lg.Has (l : Lg) (t : ByteArray) : Prop where
  lim : l.lim = false
  down : l.down = false
  look : look oth.data.toList l.fs = some (t.data.toList, t.size)
theorem Lg.Has.read {l : Lg} {t : ByteArray} (h : l.Has t) : l.findC oth.data.toList = 0 ∧ l.readS oth.data.toList = t.data.toList := by
  have hf : l.findC oth.data.toList = 0 := by unfold Lg.findC; rw [h.down, name_oth, h.look]; rfl
  refine ⟨hf, readS_yes hf (x := (t.data.toList, t.size)) ?_⟩
  unfold Lg.old
  rw [h.look]; rfl
theorem Lg.Has.fine {l : Lg} {t : ByteArray} (h : l.Has t) : l.Fine := fun e => by rw [h.lim] at e; cases e
theorem Lg.Has.of {l m : Lg} {t : ByteArray} (h : l.Has t) (h1 : m.lim = l.lim) (h2 : m.down = l.down) (h3 : Ytceejjocimgbmaa.look oth.data.toList m.fs = Ytceejjocimgbmaa.look oth.data.toList l.fs) : m.Has t := ⟨h1.trans h.lim, h2.trans h.down, h3.trans h.look⟩
theorem Lg.Has.step {l : Lg} {t : ByteArray} (h : l.Has t) : l.step = l ∧ l.go = true := by
  unfold Lg.step Lg.go
  rw [h.lim]
  exact ⟨rfl, rfl⟩
theorem Lg.Has.put {l : Lg} {t : ByteArray} (h : l.Has t) {n : List UInt8} {x : List UInt8 × Nat} {fs : List Fl} (hn : n ≠ oth.data.toList) (ha : Asc fs) (hfs : Ytceejjocimgbmaa.look oth.data.toList fs = Ytceejjocimgbmaa.look oth.data.toList l.fs) : ({ l with fs := Ytceejjocimgbmaa.put n x fs } : Lg).Has t :=
  h.of rfl rfl (by rw [look_put _ _ _ _ ha, if_neg hn]; exact hfs)
theorem Lg.Has.act {l : Lg} {t : ByteArray} (h : l.Has t) (ha : Asc l.fs) (a : Ac) (hn : a.name.data.toList ≠ oth.data.toList) (ht : a.to.data.toList ≠ oth.data.toList) (hw : a.what ≤ 3) : (l.act a).Has t := by
  have hs := h.step
  unfold Lg.act
  split
  · unfold Lg.app
    split
    · exact h
    · split
      · split
        · exact h
        · rw [hs.1, hs.2]
          exact h.put hn ha rfl
      · exact h
  split
  · unfold Lg.sync
    split
    · rw [hs.1, hs.2]
      exact h.put hn ha rfl
    · exact h
  split
  · unfold Lg.ren
    split
    · exact h
    · split
      · split
        · rw [hs.1, hs.2]
          exact h.put ht (del_asc ha) (by rw [look_del, if_neg hn])
        · exact h
      · exact h
  split
  · unfold Lg.dele
    split
    · rw [hs.1, hs.2]
      exact h.of rfl rfl (by show Ytceejjocimgbmaa.look _ (del _ l.fs) = _; rw [look_del, if_neg hn])
    · exact h
  split
  · omega
  split
  · omega
  split
  · omega
  · exact h
def l0 : Lg := ⟨1048576, false, false, 0, []⟩
def lo1 (t : ByteArray) : Lg := ⟨1048576, false, false, 0, [(oth.data.toList, (t.data.toList, 0))]⟩
def lo2 (t : ByteArray) : Lg := ⟨1048576, false, false, 0, [(oth.data.toList, (t.data.toList, t.size))]⟩
theorem l0_app (t : ByteArray) (h : t.size ≤ 200) : l0.appC oth.data.toList t.data.toList = 0 ∧ l0.app oth.data.toList t.data.toList = lo1 t := by
  have hr : ¬ ((l0.room - (l0.used : Int)) < (t.data.toList.length : Int)) := by rw [size_data]; show ¬ ((1048576 : Int) - 0 < _); omega
  unfold Lg.appC Lg.app
  rw [name_oth, if_neg hr, if_neg hr]
  exact ⟨rfl, rfl⟩
theorem lo1_sync (t : ByteArray) : (lo1 t).syncC oth.data.toList = 0 ∧ (lo1 t).sync oth.data.toList = lo2 t := by
  have e : look oth.data.toList (lo1 t).fs = some (t.data.toList, 0) := by unfold lo1; simp [look]
  have hf : (lo1 t).findC oth.data.toList = 0 := by unfold Lg.findC; rw [name_oth, e]; rfl
  have ho : (lo1 t).old oth.data.toList = (t.data.toList, 0) := by unfold Lg.old; rw [e]; rfl
  obtain ⟨h1, h2, -⟩ := sync_yes (l := lo1 t) hf rfl ho
  refine ⟨h1, h2.trans ?_⟩
  rw [size_data]
  unfold lo1 lo2
  show (⟨1048576, false, false, 0, put oth.data.toList (t.data.toList, t.size) [(oth.data.toList, (t.data.toList, 0))]⟩ : Lg) = _
  simp [put]
theorem lo2_has (t : ByteArray) : (lo2 t).Has t := ⟨rfl, rfl, by unfold lo2; simp [look]⟩

set_option maxRecDepth 100000 in
theorem wide_any (w : World) : Calls Try.prog 20 #[] w fun e w' => e = .returned (dp w.heap.size) ∧ Up w.heap.size w' w.heap.size l0 ∧ Below w.heap.size w w' ∧ w'.heap.size = w.heap.size + 1 := by
  have H2 := Lib.hid (new_up w 1048576 (by omega) (by omega))
  unfold dp at H2 ⊢
  go_enter Try.func20, Try.ntmps20
  go_wp2_with (go_at_call 8; (with_reducible refine H2.out.mono ?_); rintro e w2 ⟨rfl, h2, b2, z2⟩)
  go_ret
  exact ⟨rfl, h2, b2, z2⟩
set_option maxRecDepth 100000 in
set_option maxHeartbeats 4000000 in
theorem diskApart_out (a0 : Option Addr) (n cap : Nat) (t : ByteArray) (hn : n ≤ maxLen) (ht : t.size ≤ maxLen) (h : 40 < n ∨ 200 < t.size) (w : World) :
    Calls Try.prog 6 #[.slice a0 n cap, .string t] w fun e w' => e = .returned (.bool true) ∧ Below w.heap.size w w' := by
  have H1 := Lib.hid (awake_any w)
  unfold maxLen at hn ht
  by_cases h1 : 40 < n
  · have h1' : (40 : Int) < (n : Int) := by omega
    have hnI : (n : Int) ≤ 9223372036854775807 := by omega
    clear h hn ht h1
    go_enter Try.func6, Try.ntmps6
    go_wp2_with (go_at_call 7; (with_reducible refine H1.out.mono ?_); rintro e w1 ⟨rfl, b1⟩)
    go_ret
    exact ⟨rfl, b1⟩
  · have h1' : (n : Int) ≤ 40 := by omega
    have h2' : (200 : Int) < (t.size : Int) := by omega
    have htI : (t.size : Int) ≤ 9223372036854775807 := by omega
    clear h hn ht h1
    go_enter Try.func6, Try.ntmps6
    go_wp2_with (go_at_call 7; (with_reducible refine H1.out.mono ?_); rintro e w1 ⟨rfl, b1⟩)
    go_ret
    exact ⟨rfl, b1⟩
set_option maxRecDepth 100000 in
set_option maxHeartbeats 8000000 in
theorem diskApart_in (a0 : Option Addr) (cap : Nat) (xs : List Xa) (hx : xs.length ≤ 40) (t : ByteArray) (ht : t.size ≤ 200) (w : World) (hR : RdA w a0 xs) :
    Calls Try.prog 6 #[.slice a0 xs.length cap, .string t] w fun e w' => e = .returned (.bool true) ∧ Below w.heap.size w w' := by
  have H1 := Lib.hid (awake_any w)
  have H2 := Lib.hid (fun W => wide_any W)
  have H3 := Lib.hid (fun W => rnew_any W 1048576)
  have HR := Lib.hid hR
  clear hR
  have hxI : (xs.length : Int) ≤ 40 := by omega
  have htI : (t.size : Int) ≤ 200 := by omega
  have HP1 : Hid (∀ (K : Nat → Prop) base w0 V d r, T K base w0 V d r l0 l0 → Calls Try.prog 10 #[dp d, .string ⟨#[111, 116, 104, 101, 114]⟩, .string t] V fun e w' => e = .returned (.int .i64 0) ∧ T K base w0 w' d r (lo1 t) l0) := Lib.hid fun K base w0 V d r hV => by
    have := tp_append hV oth t (by decide) (by omega)
    rwa [(l0_app t ht).1, (l0_app t ht).2] at this
  have HP2 : Hid (∀ (K : Nat → Prop) base w0 V d r lr, T K base w0 V d r (lo1 t) lr → Calls Try.prog 15 #[dp d, .string ⟨#[111, 116, 104, 101, 114]⟩] V fun e w' => e = .returned (.int .i64 0) ∧ T K base w0 w' d r (lo2 t) lr) := Lib.hid fun K base w0 V d r lr hV => by
    have := tp_sync hV oth
    rwa [(lo1_sync t).1, (lo1_sync t).2] at this
  have ho0 : l0.Ok := ⟨Asc.nil, (fun p hp => by cases hp), (fun p hp => by cases hp), by decide, by decide, by decide, fun h => by cases h⟩
  have HQ1 : Hid (∀ (K : Nat → Prop) base w0 V d r lp, T K base w0 V d r lp l0 → Calls Try.prog 21 #[dp r, .string ⟨#[111, 116, 104, 101, 114]⟩, .string t] V fun e w' => e = .returned (.int .i64 0) ∧ T K base w0 w' d r lp (lo1 t)) := Lib.hid fun K base w0 V d r lp hV => by
    have := tr_append hV ho0 oth t (by decide) (by omega)
    rwa [(l0_app t ht).1, (l0_app t ht).2] at this
  have HQ2 : Hid (∀ (K : Nat → Prop) base w0 V d r lp, T K base w0 V d r lp (lo1 t) → Calls Try.prog 22 #[dp r, .string ⟨#[111, 116, 104, 101, 114]⟩] V fun e w' => e = .returned (.int .i64 0) ∧ T K base w0 w' d r lp (lo2 t)) := Lib.hid fun K base w0 V d r lp hV => by
    have ho1 : (lo1 t).Ok := ⟨by simp [lo1, Asc], (fun p hp => by simp [lo1] at hp; rw [hp]; exact name_oth), (fun p hp => by simp [lo1] at hp; rw [hp]; exact Nat.zero_le _), by simp [lo1, Lg.used]; omega, by simp [lo1], by simp [lo1], fun h => by cases h⟩
    have := tr_sync hV ho1 oth (by simp [lo1])
    rwa [(lo1_sync t).1, (lo1_sync t).2] at this
  unfold dp at H2 H3 HP1 HP2 HQ1 HQ2
  go_enter Try.func6, Try.ntmps6
  go_wp2_with (first
    | (go_at_call 7; (with_reducible refine H1.out.mono ?_); rintro e w1 ⟨rfl, b1⟩; have z1 := b1.size)
    | (go_at_call 20; (with_reducible refine (H2.out _).mono ?_); rintro e w2 ⟨rfl, h2, b2, z2⟩; have Z2 := Lib.hid z2; clear z2)
    | (go_at_call 12; (with_reducible refine (H3.out _).mono ?_); rintro e w3 ⟨rfl, h3, b3, z3⟩; have Z3 := Lib.hid z3; clear z3; have HT0 := Lib.hid (fun o => (start_T (l0 := l0) h2 Z2.out h3 rfl b3 Z3.out).push (K' := fun k => k = w3.heap.size) ((Below.refl _ _).alloc (Nat.le_refl _) o) (fun k hk => .inr (by rw [hk]; simp))))
    | (go_at_call 10; (with_reducible refine (HP1.out _ _ _ _ _ _ (HT0.out _)).mono ?_); rintro e w4 ⟨rfl, h4⟩; have H4 := Lib.hid h4; have x4 := h4.block (heap_alloc_new w3 _) (.inr rfl); have p4 : w4.cell? ⟨w3.heap.size, 0, none⟩ = some (.pointer (some ⟨w1.heap.size, 0, none⟩)) := cell_of_row _ _ _ _ _ _ x4; clear h4 x4)
    | (go_at_call 15; (with_reducible refine (HP2.out _ _ _ _ _ _ _ H4.out).mono ?_); rintro e w5 ⟨rfl, h5⟩; have H5 := Lib.hid h5; have x5 := h5.block (heap_alloc_new w3 _) (.inr rfl); have p5 : w5.cell? ⟨w3.heap.size, 1, none⟩ = some (.pointer (some ⟨w2.heap.size, 0, none⟩)) := cell_of_row _ _ _ _ _ _ x5; clear h5 x5)
    | (go_at_call 21; (with_reducible refine (HQ1.out _ _ _ _ _ _ _ H5.out).mono ?_); rintro e w6 ⟨rfl, h6⟩; have H6 := Lib.hid h6; have x6 := h6.block (heap_alloc_new w3 _) (.inr rfl); have p6 : w6.cell? ⟨w3.heap.size, 1, none⟩ = some (.pointer (some ⟨w2.heap.size, 0, none⟩)) := cell_of_row _ _ _ _ _ _ x6; clear h6 x6)
    | (go_at_call 22; (with_reducible refine (HQ2.out _ _ _ _ _ _ _ H6.out).mono ?_); rintro e w7 ⟨rfl, h7⟩; have H7 := Lib.hid h7; clear h7))
  have hrow : (w3.alloc (.cells #[.pointer (some ⟨w1.heap.size, 0, none⟩), .pointer (some ⟨w2.heap.size, 0, none⟩)] 34)).heap[w3.heap.size]? = some (.cells #[.pointer (some ⟨w1.heap.size, 0, none⟩), .pointer (some ⟨w2.heap.size, 0, none⟩)] 34 (0, 0)) := heap_alloc_new w3 _
  have HROW := Lib.hid hrow
  have hbw : Below w.heap.size w (w3.alloc (.cells #[.pointer (some ⟨w1.heap.size, 0, none⟩), .pointer (some ⟨w2.heap.size, 0, none⟩)] 34)) := by
    have hz2 := Z2.out
    have hz3 := Z3.out
    exact Below.trans (Below.trans (Below.trans b1 (b2.mono z1)) (b3.mono (by omega))) (((Below.refl _ _).alloc (Nat.le_refl _) _).mono (by omega))
  have HBW := Lib.hid hbw
  clear hrow hbw h2 h3 b2 b3 Z2 Z3 H1 H2 H3 b1 H4 H5 H6 HT0 p4 p5 p6 HP1 HP2 HQ1 HQ2
  generalize w3.alloc (.cells #[.pointer (some ⟨w1.heap.size, 0, none⟩), .pointer (some ⟨w2.heap.size, 0, none⟩)] 34) = W3 at *
  generalize w3.heap.size = bx at *
  generalize w2.heap.size = r at *
  generalize w1.heap.size = d at *
  have HDo := Lib.hid (fun V l (hV : T (fun k => k = bx) d W3 V d r l l) (hf : l.Fine) (hlen : l.fs.length ≤ 1000) => do_any hV hf hlen)
  have HAg := Lib.hid (fun V l (hV : T (fun k => k = bx) d W3 V d r l l) (hf : l.Fine) (hlen : l.fs.length ≤ 1000) => agree_any hV hf hlen)
  have HBx := Lib.hid (fun V l (hV : T (fun k => k = bx) d W3 V d r l l) => hV.block HROW.out (.inr rfl))
  have HRe : Hid (∀ V l, T (fun k => k = bx) d W3 V d r l l → l.Has t → Calls Try.prog 17 #[dp d, .string ⟨#[111, 116, 104, 101, 114]⟩] V fun e w' => e = .returned (.tuple #[.string t, .int .i64 0]) ∧ w' = V) := Lib.hid fun V l hV hl => by
    have := tp_read hV oth
    rwa [hl.read.1, hl.read.2, txt_data] at this
  have HXs : Hid (∀ V l, T (fun k => k = bx) d W3 V d r l l → RdA V a0 xs) := Lib.hid fun V l hV => by
    exact HR.out.keep ((Ch.of_below HBW.out).tr (hV.ch.mono fun k _ h => Nat.le_trans z1 h.1))
  have HKd : Hid (∀ i, i < xs.length → ∀ ad, (xat xs i).ka = some ad → (xat xs i).ac.keep ≠ [] → ad.block < d) := Lib.hid fun i hi ad e hne => Nat.lt_of_lt_of_le ((HR.out i hi).2.2.1 ad e hne) z1
  unfold Ac.val dp at HDo
  unfold dp at HAg HRe
  clear HROW HR
  go_loopw [43] (fun i wr => ∃ (ii : Nat) (l : Lg), i = .int .i64 (ii : Int) ∧ ii ≤ xs.length ∧ Hid (l.Has t ∧ l.fs.length ≤ ii + 1 ∧ T (fun k => k = bx) d W3 wr d r l l)) (fun i _ => xs.length - (intOf i).toNat)
  case atStart => exact ⟨0, _, rfl, Nat.zero_le _, Lib.hid ⟨lo2_has t, Nat.le_refl _, H7.out⟩⟩
  case round =>
    clear H7
    obtain ⟨ii, l, rfl, hi, HI⟩ := hrel
    have hB := HBx.out _ _ HI.out.2.2
    have s0 : wr.cell? ⟨bx, 0, none⟩ = some (.pointer (some ⟨d, 0, none⟩)) := cell_of_row _ _ _ _ _ _ hB
    have s1 : wr.cell? ⟨bx, 1, none⟩ = some (.pointer (some ⟨r, 0, none⟩)) := cell_of_row _ _ _ _ _ _ hB
    have HLN : Hid (l.fs.length ≤ 1000) := Lib.hid (by have := HI.out.2.1; omega)
    clear hB
    by_cases hlt : ii < xs.length
    · have hlt' : (ii : Int) < (xs.length : Int) := by omega
      have hi0 : (0 : Int) ≤ (ii : Int) := by omega
      obtain ⟨⟨b, off, rfl, k0, k1, k2, k3, k4⟩, hI, -, hok⟩ := HXs.out _ _ HI.out.2.2 ii hlt
      have HKD := Lib.hid (HKd.out ii hlt)
      have HII := Lib.hid hI
      have HOK := Lib.hid hok
      obtain ⟨⟨ac, ka, kc⟩, hxe⟩ : ∃ x, xat xs ii = x := ⟨_, rfl⟩
      rw [hxe] at k0 k1 k2 k3 k4 HKD HII HOK
      simp only at k0 k1 k2 k3 k4
      obtain ⟨hn, hw, hs1, hs2⟩ := HOK.out
      simp only at hn hw hs1 hs2
      unfold maxLen at hs1 hs2
      have hs1' : (ac.name.size : Int) ≤ 9223372036854775807 := by omega
      have hs2' : (ac.to.size : Int) ≤ 9223372036854775807 := by omega
      clear hI hok hxe HOK
      have HAL : Hid (∀ o, T (fun k => k = bx) d W3 (wr.alloc o) d r l l) := Lib.hid fun o => HI.out.2.2.new ((Below.refl _ _).alloc (Nat.le_refl _) o)
      have t0 : ∀ o, (wr.alloc o).cell? ⟨bx, 0, none⟩ = some (.pointer (some ⟨d, 0, none⟩)) := fun o => (Ch.alloc (fun _ => False) wr o).cell s0 id
      have t1 : ∀ o, (wr.alloc o).cell? ⟨bx, 1, none⟩ = some (.pointer (some ⟨r, 0, none⟩)) := fun o => (Ch.alloc (fun _ => False) wr o).cell s1 id
      have HSk : Hid (∀ o, Hid (l.Has t ∧ l.fs.length ≤ (ii + 1) + 1 ∧ T (fun k => k = bx) d W3 (wr.alloc o) d r l l)) := Lib.hid fun o => Lib.hid ⟨HI.out.1, by have := HI.out.2.1; omega, HAL.out o⟩
      by_cases e1 : ac.name = oth
      · have e1' : ac.name = ⟨#[111, 116, 104, 101, 114]⟩ := e1
        rw [e1'] at k2
        clear hs1 hs2 hs1' e1 e1'
        go_wp2
        go_roundw
        case rel => exact ⟨ii + 1, l, by go_num, by omega, HSk.out _⟩
        case measure => simp [intOf]; omega
      · have e1b : ¬ ac.name.toList = [111, 116, 104, 101, 114] := oth_ne e1
        have e1c : (ac.name.toList == [111, 116, 104, 101, 114]) = false := beq_eq_false_iff_ne.2 e1b
        by_cases e2 : ac.to = oth
        · have e2' : ac.to = ⟨#[111, 116, 104, 101, 114]⟩ := e2
          rw [e2'] at k3
          clear hs1 hs2 hs2' e2 e2'
          go_wp2
          go_roundw
          case rel => exact ⟨ii + 1, l, by go_num, by omega, HSk.out _⟩
          case measure => simp [intOf]; omega
        · have e2b : ¬ ac.to.toList = [111, 116, 104, 101, 114] := oth_ne e2
          have e2c : (ac.to.toList == [111, 116, 104, 101, 114]) = false := beq_eq_false_iff_ne.2 e2b
          by_cases e3 : 3 < ac.what
          · clear hs1 hs2
            go_wp2
            go_roundw
            case rel => exact ⟨ii + 1, l, by go_num, by omega, HSk.out _⟩
            case measure => simp [intOf]; omega
          · have e3' : ac.what ≤ 3 := by omega
            by_cases e4 : 200 < ac.name.size
            · have e4' : (200 : Int) < (ac.name.size : Int) := by omega
              clear hs1 hs2 e4
              go_wp2
              go_roundw
              case rel => exact ⟨ii + 1, l, by go_num, by omega, HSk.out _⟩
              case measure => simp [intOf]; omega
            · have e4' : (ac.name.size : Int) ≤ 200 := by omega
              by_cases e5 : 200 < ac.to.size
              · have e5' : (200 : Int) < (ac.to.size : Int) := by omega
                clear hs1 hs2 e4 e5
                go_wp2
                go_roundw
                case rel => exact ⟨ii + 1, l, by go_num, by omega, HSk.out _⟩
                case measure => simp [intOf]; omega
              · have e5' : (ac.to.size : Int) ≤ 200 := by omega
                have HGo := Lib.hid (fun o => HDo.out _ _ (HAL.out o) HI.out.1.fine HLN.out ac (by omega) hn hw ka kc (HII.out.keep (Ch.alloc (fun _ => False) wr o) fun _ _ => id) HKD.out)
                have hne : ∀ x : ByteArray, ¬ x = oth → x.data.toList ≠ oth.data.toList := fun x hx h => hx (by have := congrArg txt h; rwa [txt_data, txt_data] at this)
                have HH2 := Lib.hid (HI.out.1.act (HI.out.2.2.ok HI.out.1.fine).asc ac (hne _ e1) (hne _ e2) e3')
                have HL2 : Hid ((l.act ac).fs.length ≤ (ii + 1) + 1) := Lib.hid (Nat.le_trans (act_len l ac) (by have := HI.out.2.1; omega))
                generalize l.act ac = l2 at *
                have hbt : (t.toList == t.toList) = true := by simp
                clear hs1 hs2 e1 e2 e3 e4 e5 hn hw hne
                go_wp2_with (first
                  | (go_at_call 13; (with_reducible refine (HGo.out _).mono ?_); rintro e w8 ⟨rfl, h8⟩; have H8 := Lib.hid h8; have hB8 := HBx.out _ _ h8; have y0 : w8.cell? ⟨bx, 0, none⟩ = some (.pointer (some ⟨d, 0, none⟩)) := cell_of_row _ _ _ _ _ _ hB8; clear h8 hB8)
                  | (go_at_call 17; (with_reducible refine (HRe.out _ _ H8.out HH2.out).mono ?_); rintro e w9 ⟨rfl, rfl⟩))
                go_roundw
                case rel => exact ⟨ii + 1, l2, by go_num, by omega, Lib.hid ⟨HH2.out, HL2.out, H8.out⟩⟩
                case measure => simp [intOf]; omega
    · have hlt' : (xs.length : Int) ≤ (ii : Int) := by omega
      have HAG := Lib.hid (HAg.out _ _ HI.out.2.2 HI.out.1.fine HLN.out)
      go_wp2_with (go_at_call 14; (with_reducible refine HAG.out.mono ?_); rintro e w8 ⟨rfl, hb8⟩)
      go_ret
      refine ⟨rfl, ?_⟩
      have h2 : Ch (fun k => w.heap.size ≤ k) w wr := (Ch.of_below HBW.out).tr (HI.out.2.2.ch.mono fun k _ h => Nat.le_trans z1 h.1)
      exact Ch.below (h2.tr (Ch.of_new hb8)) (Nat.le_refl _) fun k hk h => by omega
end Go.Proofs.Ytceejjocimgbmaa
