/- The walk of ChunksAgain. -/
import Derived.Test.YtogihpofkjpokaaGreatDoorCP
import Derived.ProofKit
import Derived.ChangeSlices
namespace Go.Proofs.YtogihpofkjpokaaGreatDoor
open Go Go.RowKit Go.Maps
open D4 (put Asc Lg Dk dp More RdI)
open F5 (txt txt_size data_txt RdT OwT)

theorem RdI_new {w w' : World} {a : Option Addr} {xs : List Int} (h : RdI w a xs) (hb : Below w.heap.size w w') : RdI w' a xs := fun i hi => by
  obtain ⟨b, off, ha, h1⟩ := h i hi
  exact ⟨b, off, ha, (Ch.of_new (S := fun _ => False) hb).cell (p := ⟨b, off + i, none⟩) h1 id⟩
theorem Tryz.cells3 : Tryz.prog.cellsOf 3 = 1 := by kernel_rfl
/-- A slice of numbers that came in. -/
theorem arg_ints {H : Type} {enc : TypeId × Value → H} {W : World} {a0 : Option Addr} {len cap : Nat} {d : DataW H} {ps : List MemPlace}
    (h : DataW.Trod enc Tryz.prog W 0 (fun _ => true) true 26 (.slice a0 len cap) d ps) :
    ∃ xs : List Int, len = xs.length ∧ RdI W a0 xs ∧ len ≤ maxLen := by
  obtain ⟨fuel, hf⟩ := h
  rcases Go.ChangeShapes.open_ints Tryz.underlying26 Tryz.underlying3 Tryz.cells3 hf with ⟨hcs, _⟩ | ⟨a, len', cap', zs, hcs, _, hl, hm, hz, _, hc, _⟩
  · simp [Value.cells] at hcs
    obtain ⟨rfl, rfl, rfl⟩ := hcs
    exact ⟨[], rfl, fun i hi => absurd hi (by simp), Nat.zero_le _⟩
  · simp [Value.cells] at hcs
    obtain ⟨rfl, rfl, rfl⟩ := hcs
    simp only [if_true] at hz
    refine ⟨zs.take len, by rw [List.length_take]; omega, fun i hi => ?_, by omega⟩
    have hi' : i < len := by rw [List.length_take] at hi; omega
    have hc' := hc i (by omega)
    obtain ⟨b, off, spot⟩ := a
    have hspot : spot = none := by
      have h0 := World.cell?_spot (hc 0 (by omega))
      simpa [Addr.add] using h0
    subst hspot
    refine ⟨b, off, rfl, ?_⟩
    rw [Addr.add_lit] at hc'
    rw [hc', List.getD_eq_getElem?_getD, List.getD_eq_getElem?_getD, List.getElem?_take_of_lt hi']
/-- The law's room, and what the frames take. -/
def rmL (xs : List (List UInt8)) : Nat := (xs.map fun x => 8 * x.length + 200).sum
def bsL (xs : List (List UInt8)) : Nat := (xs.map fun x => 2 * (13 + x.length)).sum
theorem rmL_take {xs : List (List UInt8)} {i : Nat} (h : i < xs.length) : rmL (xs.take (i + 1)) = rmL (xs.take i) + (8 * (xs[i]).length + 200) := by
  unfold rmL; rw [List.take_succ_eq_append_getElem h, List.map_append, List.sum_append]; rfl
theorem bsL_take {xs : List (List UInt8)} {i : Nat} (h : i < xs.length) : bsL (xs.take (i + 1)) = bsL (xs.take i) + 2 * (13 + (xs[i]).length) := by
  unfold bsL; rw [List.take_succ_eq_append_getElem h, List.map_append, List.sum_append]; rfl
theorem bs_rm : ∀ xs : List (List UInt8), 3 * bsL xs ≤ rmL xs
  | [] => by simp [bsL, rmL]
  | x :: xs => by have := bs_rm xs; unfold bsL rmL at this ⊢; simp only [List.map_cons, List.sum_cons]; omega
theorem bs_take : ∀ (xs : List (List UInt8)) (i : Nat), bsL (xs.take i) ≤ bsL xs
  | [], i => by simp [bsL]
  | x :: xs, 0 => by simp [bsL]
  | x :: xs, i + 1 => by have := bs_take xs i; unfold bsL at this ⊢; simp only [List.take_succ_cons, List.map_cons, List.sum_cons]; omega
theorem rm_le : ∀ xs : List (List UInt8), (∀ x ∈ xs, x.length ≤ 300) → rmL xs ≤ 2600 * xs.length
  | [], _ => by simp [rmL]
  | x :: xs, h => by have := rm_le xs fun y hy => h y (by simp [hy]); have := h x (by simp); unfold rmL at *; simp only [List.map_cons, List.sum_cons, List.length_cons]; omega
/-- A Put and a Commit, where there is room. -/
theorem again_com {l : Lg} {a : Ab} {B N : Nat} (h : Up l a B N) (hf : l.lim = false) (x : List UInt8) (hx : x.length ≤ 300) (hroom : (3 * (B + 2 * (13 + x.length)) + 1000 : Int) ≤ l.room) : ∃ a2 l2, (a.putF x).comC l x = 0 ∧ (a.putF x).comA l x = a2 ∧ (a.putF x).comL l x = l2 ∧ l2.lim = false ∧ l2.room = l.room ∧ Up l2 a2 (B + 2 * (13 + x.length)) (N + 1) := by
  have h1 := h.put x (by omega)
  obtain ⟨hr, hl, ⟨e, e2, hU⟩ | ⟨e, e2, hU, h4⟩⟩ := h1.commit_free hf x (by omega)
  · exact ⟨(a.putF x).done x, (a.putF x).comL l x, e, e2, rfl, hl, hr, hU.mono (by omega) (Nat.le_refl _)⟩
  · omega
theorem printsB {w : World} {sb d : Nat} {a : Ab} {l : Lg} {G : Nat → Prop} (h : Str w sb d a l G) (hl : a.kept.length ≤ 1000) :
    Calls Tryz.prog 13 #[.pointer (some ⟨sb, 0, none⟩)] w fun e w' => ∃ v c, e = .returned (.slice v a.kept.length c) ∧ RdT w' v (a.kept.map (·.1)) ∧ (∀ ad, v = some ad → w.heap.size ≤ ad.block ∧ ad.block < w'.heap.size) ∧ Below w.heap.size w w' := by
  refine (sprints_any h (by omega)).mono ?_
  rintro e w' ⟨v, rfl, ho, hb⟩
  obtain ⟨x, c, hv, hr, _, hA⟩ := ho.rd
  rw [List.length_map] at hv
  exact ⟨x, c, by rw [hv], hr, hA, hb⟩
/-- The rounds of the first Commits. -/
structure AI (w wr : World) (sb d : Nat) (a : Ab) (l : Lg) (xs : List (List UInt8)) (i : Nat) : Prop where
  str : Str wr sb d a l fun k => w.heap.size ≤ k
  up : Up l a (13 + bsL (xs.take i)) i
  lim : l.lim = false
  room : l.room = (2000 + rmL xs : Nat)
  below : Below w.heap.size w wr
/-- The rounds of the falls. -/
structure BI (w wr : World) (sb d : Nat) (a : Ab) (l : Lg) (v : Option Addr) (K : Tx) (R : List UInt8) (N : Nat) : Prop where
  str : Str wr sb d a l fun k => w.heap.size ≤ k ∧ ∀ ad, v = some ad → k ≠ ad.block
  up : Up l a 40000 N
  kept : a.kept = K
  root : a.root = R
  rd : RdT wr v (K.map (·.1))
  low : ∀ ad, v = some ad → ad.block < wr.heap.size
  below : Below w.heap.size w wr
set_option maxRecDepth 100000 in
set_option maxHeartbeats 16000000 in
theorem chunksAgain_any {w : World} (hK : S1.KR w) (a0 : Option Addr) (c : Nat) (xs : List (List UInt8)) (hR : RdT w a0 xs) (hxl : xs.length ≤ maxLen) (a1 : Option Addr) (c1 : Nat) (ns : List Int) (hR1 : RdI w a1 ns) (hnl : ns.length ≤ maxLen) :
    Calls Tryz.prog 4 #[.slice a0 xs.length c, .slice a1 ns.length c1] w fun e w' => e = .returned (.bool true) ∧ Below w.heap.size w w' := by
  have P6 := Lib.hid (awake_any hK)
  have hpos := hK.pos
  unfold maxLen at hxl hnl
  by_cases h1 : 20 < xs.length
  · have h1' : (20 : Int) < (xs.length : Int) := by omega
    clear hR hK hR1
    go_enter Tryz.func4, Tryz.ntmps4
    go_wp2_with (go_at_call 6; (with_reducible refine P6.out.mono ?_); rintro e w1 ⟨rfl, hb1⟩)
    go_ret
    exact ⟨rfl, hb1⟩
  have h1' : (xs.length : Int) ≤ 20 := by omega
  by_cases h2 : 10 < ns.length
  · have h2' : (10 : Int) < (ns.length : Int) := by omega
    clear hR hK hR1
    go_enter Tryz.func4, Tryz.ntmps4
    go_wp2_with (go_at_call 6; (with_reducible refine P6.out.mono ?_); rintro e w1 ⟨rfl, hb1⟩)
    go_ret
    exact ⟨rfl, hb1⟩
  have h2' : (ns.length : Int) ≤ 10 := by omega
  have HR := Lib.hid (And.intro hR (And.intro hR1 (And.intro hpos hK)))
  clear hR hK hpos hxl hnl hR1
  go_enter Tryz.func4, Tryz.ntmps4
  go_wp2_with (go_at_call 6; (with_reducible refine P6.out.mono ?_); rintro e w1 ⟨rfl, hb1⟩)
  go_loopw [5, 7, 37] (fun rm _ i wr => ∃ ii : Nat, i = .int .i64 (ii : Int) ∧ ii ≤ xs.length ∧ rm = .int .i64 ((2000 + rmL (xs.take ii) : Nat) : Int) ∧ Hid (∀ x ∈ xs.take ii, x.length ≤ 300) ∧ wr = w1) (fun _ _ i _ => xs.length - (intOf i).toNat)
  case atStart => exact ⟨0, rfl, Nat.zero_le _, rfl, Lib.hid (fun x hx => by simp at hx), rfl⟩
  case round =>
    obtain ⟨ii, rfl, hi, rfl, HX, rfl⟩ := hrel
    have hrm := rm_le _ HX.out
    rw [List.length_take] at hrm
    by_cases hlt : ii < xs.length
    · have hlt' : (ii : Int) < (xs.length : Int) := by omega
      have hi0 : (0 : Int) ≤ (ii : Int) := by omega
      obtain ⟨b, off, rfl, hc1⟩ := (HR.out.1.new hb1) ii hlt
      rw [F5.getD_at hlt] at hc1
      have hrt := rmL_take hlt
      have HXT : Hid ((xs[ii]).length ≤ 300 → ∀ x ∈ xs.take (ii + 1), x.length ≤ 300) := Lib.hid fun h x hx => by
        rw [List.take_succ_eq_append_getElem hlt] at hx
        rcases List.mem_append.1 hx with hx | hx
        · exact HX.out x hx
        · rw [List.mem_singleton.1 hx]; exact h
      generalize xs[ii] = x at hc1 hrt HXT
      have hzx := txt_size x
      obtain ⟨rt, hrte⟩ : ∃ rt, rmL (xs.take ii) = rt := ⟨_, rfl⟩
      rw [hrte] at hrm hrt ⊢
      by_cases h300 : 300 < x.length
      · have h300' : (300 : Int) < (x.length : Int) := by omega
        clear hrt HXT
        generalize txt x = tx at hc1 hzx
        go_wp2
        go_ret
        exact ⟨rfl, hb1⟩
      have h300' : (x.length : Int) ≤ 300 := by omega
      have HY := Lib.hid (And.intro hrt (HXT.out (by omega)))
      have hrm' : (rt : Int) ≤ 60000 := by omega
      clear hrt HXT hrm hrte
      generalize txt x = tx at hc1 hzx
      go_wp2
      go_roundw
      case rel =>
        refine ⟨ii + 1, by go_num, by omega, ?_, Lib.hid HY.out.2, trivial⟩
        rw [HY.out.1]
        congr 1
        omega
      case measure => simp [intOf]; omega
    · have hlt' : (xs.length : Int) ≤ (ii : Int) := by omega
      have e : ii = xs.length := by omega
      subst e
      rw [List.take_length] at hrm
      have HX3 : Hid (∀ x ∈ xs, x.length ≤ 300) := Lib.hid (by have := HX.out; rwa [List.take_length] at this)
      rw [List.take_length]
      obtain ⟨rm, hrme⟩ : ∃ rm : Int, rm = ((2000 + rmL xs : Nat) : Int) := ⟨_, rfl⟩
      rw [← hrme]
      have P9 : Hid (Calls Tryz.prog 9 #[.int .i64 rm] wr fun e w' => e = .returned (.tuple #[.pointer (some ⟨wr.heap.size, 0, none⟩), .int .i64 0]) ∧ Dk w' wr.heap.size ⟨rm, false, false, 0, []⟩ (fun k => w.heap.size ≤ k) ∧ Below w.heap.size w w') := Lib.hid (by
        refine (D4.new_up wr rm (by omega) (by omega)).mono ?_
        rintro e w' ⟨rfl, hD, hb, _⟩
        exact ⟨rfl, D4.Dk.mono hD fun k _ hk => Nat.le_trans hb1.size hk, hb1.trans (hb.mono hb1.size)⟩)
      have P10 : Hid (∀ W d, Dk W d ⟨rm, false, false, 0, []⟩ (fun k => w.heap.size ≤ k) → Below w.heap.size w W → Calls Tryz.prog 10 #[.pointer (some ⟨d, 0, none⟩)] W fun e w' => ∃ sb, e = .returned (.tuple #[.pointer (some ⟨sb, 0, none⟩), .int .i64 0]) ∧ AI w w' sb d (opened none 0 false [] []) ⟨rm, false, false, 0, []⟩ xs 0) := Lib.hid fun W d hD hW => by
        have hpos := HR.out.2.2.1
        refine (openC hD (fun k hk => Nat.le_trans hW.size hk) (up_new rm) LogAt.nil (by decide) (HR.out.2.2.2.step hW) (by omega)).mono ?_
        rintro e w' ⟨sb, rfl, hS, hb⟩
        exact ⟨sb, rfl, hS, ⟨none, none, up_new rm⟩, rfl, hrme, hW.trans (hb.mono hW.size)⟩
      clear hrm hrme HX
      go_wp2_with (first
        | (go_at_call 9; (with_reducible refine P9.out.mono ?_); rintro e w2 ⟨rfl, hD2, hb2⟩)
        | (go_at_call 10; (with_reducible refine (P10.out _ _ hD2 hb2).mono ?_); rintro e w3 ⟨sb0, rfl, hI0⟩))
      have H0 := Lib.hid hI0
      clear hD2 hb2 hI0 P9 P10 P6
      generalize wr.heap.size = d at H0 ⊢
      go_loopw [13, 14, 15, 63] (fun _ _ _ i wr => ∃ (ii : Nat) (a : Ab) (l : Lg), i = .int .i64 (ii : Int) ∧ ii ≤ xs.length ∧ Hid (AI w wr sb0 d a l xs ii)) (fun _ _ _ i _ => xs.length - (intOf i).toNat)
      case atStart => exact ⟨0, _, _, rfl, Nat.zero_le _, H0⟩
      case round =>
        clear H0
        obtain ⟨ii, a, l, rfl, hi, HI⟩ := hrel
        have hpos := HR.out.2.2.1
        by_cases hlt : ii < xs.length
        · have hlt' : (ii : Int) < (xs.length : Int) := by omega
          have hi0 : (0 : Int) ≤ (ii : Int) := by omega
          obtain ⟨b, off, rfl, hc1⟩ := (HR.out.1.new HI.out.below) ii hlt
          rw [F5.getD_at hlt] at hc1
          have hxx := HX3.out _ (List.getElem_mem hlt)
          have hbt := bsL_take hlt
          have hb3 := bs_take xs (ii + 1)
          have hb4 := bs_rm xs
          have hrm := rm_le _ HX3.out
          have hroom := HI.out.room
          have HB := Lib.hid hbt
          generalize xs[ii] = x at hc1 hxx hbt HB
          obtain ⟨a2, l2, hcC, hcA, hcL, hf2, hr2, hU2⟩ := again_com HI.out.up HI.out.lim x hxx (by omega)
          have PP : Hid (∀ W, Str W sb0 d a l (fun k => w.heap.size ≤ k) → w.heap.size ≤ W.heap.size → Calls Tryz.prog 11 #[.pointer (some ⟨sb0, 0, none⟩), .string (txt x)] W fun e w' => e = .returned (.tuple #[.string (txt (sha x)), .int .i64 0]) ∧ Str w' sb0 d (a.putF x) l (fun k => w.heap.size ≤ k) ∧ Ch (fun k => w.heap.size ≤ k) W w') := Lib.hid fun W hS hz => putC hS (fun k hk => Nat.le_trans hz hk) HI.out.up (by omega) x (by omega)
          have PC : Hid (∀ W, Str W sb0 d (a.putF x) l (fun k => w.heap.size ≤ k) → w.heap.size ≤ W.heap.size → Calls Tryz.prog 12 #[.pointer (some ⟨sb0, 0, none⟩), .string (txt x)] W fun e w' => e = .returned (.int .i64 0) ∧ Str w' sb0 d a2 l2 (fun k => w.heap.size ≤ k) ∧ Ch (fun k => w.heap.size ≤ k) W w') := Lib.hid fun W hS hz => by
            have := commitC hS (fun k hk => Nat.le_trans hz hk) (HI.out.up.put x (by omega)) (by omega) (by omega) x (by omega)
            rw [hcC, hcA, hcL] at this
            exact this
          have HE : Hid (∀ W, Str W sb0 d a2 l2 (fun k => w.heap.size ≤ k) → Below w.heap.size w W → AI w W sb0 d a2 l2 xs (ii + 1)) := Lib.hid fun W hS hb => ⟨hS, by have := HB.out; rw [this]; rw [show 13 + (bsL (xs.take ii) + 2 * (13 + x.length)) = 13 + bsL (xs.take ii) + 2 * (13 + x.length) by omega]; exact hU2, hf2, hr2.trans hroom, hb⟩
          have HBW := Lib.hid HI.out.below
          have hS0 := Lib.hid HI.out.str
          clear hxx hbt hb3 hb4 hrm hroom HB hcC hcA hcL hf2 hr2 hU2 HI hpos
          generalize txt (sha x) = ts at *
          generalize txt x = tx at *
          go_wp2_with (go_at_call 11; (with_reducible refine (PP.out _ hS0.out HBW.out.size).mono ?_); rintro e w5 ⟨rfl, hS5, hc5⟩; have hB5 : Below w.heap.size w w5 := HBW.out.trans (hc5.below HBW.out.size fun k hk e => by omega))
          go_wp2_with (go_at_call 12; (with_reducible refine (PC.out _ hS5 hB5.size).mono ?_); rintro e w6 ⟨rfl, hS6, hc6⟩; have hB6 := hB5.trans (hc6.below hB5.size fun k hk e => by omega))
          have hF := Lib.hid (HE.out _ hS6 hB6)
          go_roundw
          case rel => exact ⟨ii + 1, a2, l2, by go_num, by omega, hF⟩
          case measure => simp [intOf]; omega
        · have hlt' : (xs.length : Int) ≤ (ii : Int) := by omega
          have e : ii = xs.length := by omega
          subst e
          have hfit := HI.out.up.fits (by omega) (by have := bs_take xs xs.length; have := bs_rm xs; have := rm_le _ HX3.out; omega)
          have hkl := hfit.2.2.2.2.2.2.1
          obtain ⟨K, hKe⟩ : ∃ K, a.kept = K := ⟨_, rfl⟩
          obtain ⟨R, hRe⟩ : ∃ R, a.root = R := ⟨_, rfl⟩
          have hUp : Up l a 40000 xs.length := HI.out.up.mono (by have := bs_take xs xs.length; have := bs_rm xs; have := rm_le _ HX3.out; omega) (Nat.le_refl _)
          have PN : Hid (Calls Tryz.prog 13 #[.pointer (some ⟨sb0, 0, none⟩)] wr fun e w' => ∃ v c, e = .returned (.slice v K.length c) ∧ BI w w' sb0 d a l v K R xs.length) := Lib.hid (by
            have := printsB HI.out.str (by omega)
            rw [hKe] at this
            refine this.mono ?_
            rintro e w' ⟨v, c, rfl, hr, hA, hb⟩
            have hz := HI.out.below.size
            refine ⟨v, c, rfl, ?_, hUp, hKe, hRe, hr, fun ad e => (hA ad e).2, HI.out.below.trans (hb.mono hz)⟩
            refine (HI.out.str.low.new hb).mono (fun k _ hk => ⟨hk.1, fun ad e e2 => ?_⟩) (fun e => by have := e.1; omega)
            have := (hA ad e).1
            have := hk.2
            omega)
          have PT : Hid (∀ W v, BI w W sb0 d a l v K R xs.length → Calls Tryz.prog 14 #[.pointer (some ⟨sb0, 0, none⟩)] W fun e w' => e = .returned (.string (txt R)) ∧ w' = W) := Lib.hid fun W v h => by rw [← h.root]; exact sroot_any h.str
          have hKl : K.length ≤ 20 := by rw [← hKe]; omega
          clear HI hfit hkl hKe hRe hUp
          go_wp2_with (go_at_call 13; (with_reducible refine PN.out.mono ?_); rintro e w4 ⟨v, c4, rfl, hB4⟩)
          go_wp2_with (go_at_call 14; (with_reducible refine (PT.out _ _ hB4).mono ?_); rintro e w4b ⟨rfl, hw4b⟩; subst w4b)
          have H0 := Lib.hid hB4
          clear hB4 PN PT
          go_loopw [19, 20, 21, 22, 23, 24, 88, 122] (fun _ _ _ _ _ _ i _ wr => ∃ (jj sb : Nat) (a : Ab) (l : Lg), i = .int .i64 (jj : Int) ∧ jj ≤ ns.length ∧ Hid (BI w wr sb d a l v K R xs.length)) (fun _ _ _ _ _ _ i _ _ => ns.length - (intOf i).toNat)
          case atStart => exact ⟨0, sb0, a, l, rfl, Nat.zero_le _, H0⟩
          case round =>
            clear H0
            obtain ⟨jj, sb, a, l, rfl, hj, HI⟩ := hrel
            by_cases hlt : jj < ns.length
            · have hlt' : (jj : Int) < (ns.length : Int) := by omega
              have hj0 : (0 : Int) ≤ (jj : Int) := by omega
              obtain ⟨b, off, rfl, hc1⟩ := (RdI_new HR.out.2.1 HI.out.below) jj hlt
              generalize ns.getD jj 0 = n at hc1
              have hpos := HR.out.2.2.1
              obtain ⟨lg, sp, r, t, hL, hU⟩ := HI.out.up.reopen [n, n, n]
              have hzw := HI.out.below.size
              have hvl := HI.out.low
              have hkl := HI.out.kept
              have PF : Hid (Calls Tryz.prog 15 #[.pointer (some ⟨d, 0, none⟩), .slice (some ⟨wr.heap.size, 0, none⟩) 3 3] (wr.alloc (.cells #[.int .i64 n, .int .i64 n, .int .i64 n] 3)) fun e w' => e = .returned (.tuple #[]) ∧ Dk w' d (l.fall [n, n, n]) (fun k => w.heap.size ≤ k ∧ ∀ ad, v = some ad → k ≠ ad.block) ∧ S1.KR w' ∧ RdT w' v (K.map (·.1)) ∧ wr.heap.size < w'.heap.size ∧ Below w.heap.size w w') := Lib.hid (by
                have hS := (HI.out.str.low).new ((Below.refl _ _).alloc (Nat.le_refl _) (.cells #[.int .i64 n, .int .i64 n, .int .i64 n] 3))
                refine (fallC hS HI.out.up.down.2.2 (some ⟨wr.heap.size, 0, none⟩) 3 [n, n, n] ?_ ?_).mono ?_
                · intro i hi
                  have hi : i < 3 := hi
                  refine ⟨_, _, rfl, ?_⟩
                  rw [cell_of_row _ _ _ _ _ _ (heap_alloc_new wr _)]
                  match i, hi with
                  | 0, _ => rfl
                  | 1, _ => rfl
                  | 2, _ => rfl
                · rintro ad e - ⟨⟨_, h2⟩, _⟩
                  cases e
                  exact Nat.lt_irrefl _ h2
                · rintro e w' ⟨rfl, hD, hk, hc⟩
                  have hs := hc.size
                  have hs : wr.heap.size + 1 ≤ w'.heap.size := by simpa using hs
                  have hC2 : Ch (fun k => (w.heap.size ≤ k ∧ ∀ ad, v = some ad → k ≠ ad.block) ∧ k < wr.heap.size) wr w' := (Ch.alloc _ _ _).tr hc
                  exact ⟨rfl, hD.mono fun k _ e => e.1, hk, HI.out.rd.keep hC2 (fun ad e h => h.1.2 ad e rfl), by omega, HI.out.below.trans (hC2.below hzw fun k hk e => by have := e.1.1; omega)⟩)
              have PO : Hid (∀ W, Dk W d (l.fall [n, n, n]) (fun k => w.heap.size ≤ k ∧ ∀ ad, v = some ad → k ≠ ad.block) → S1.KR W → wr.heap.size < W.heap.size → RdT W v (K.map (·.1)) → Below w.heap.size w W → Calls Tryz.prog 10 #[.pointer (some ⟨d, 0, none⟩)] W fun e w' => ∃ sb, e = .returned (.tuple #[.pointer (some ⟨sb, 0, none⟩), .int .i64 0]) ∧ BI w w' sb d (opened lg r t a.root a.kept) (l.fall [n, n, n]) v K R xs.length) := Lib.hid fun W hD hk hz hr hb => by
                refine (openC hD (fun k hk => ⟨by omega, fun ad e e2 => by have := hvl ad e; omega⟩) hU hL (by decide) hk (fun e => by have := e.1; omega)).mono ?_
                rintro e w' ⟨sb, rfl, hS, hb'⟩
                exact ⟨sb, rfl, hS, ⟨lg, sp, hU⟩, HI.out.kept, HI.out.root, hr.new hb', fun ad e => by have := hvl ad e; have := hb'.size; omega, hb.trans (hb'.mono hb.size)⟩
              have PN : Hid (∀ W sb a l, BI w W sb d a l v K R xs.length → Calls Tryz.prog 13 #[.pointer (some ⟨sb, 0, none⟩)] W fun e w' => ∃ v2 c, e = .returned (.slice v2 K.length c) ∧ BI w w' sb d a l v K R xs.length ∧ RdT w' v2 (K.map (·.1))) := Lib.hid fun W sb a l h => by
                have := printsB h.str (by rw [h.kept]; omega)
                rw [h.kept] at this
                refine this.mono ?_
                rintro e w' ⟨v2, c, rfl, hr, hA, hb'⟩
                exact ⟨v2, c, rfl, ⟨h.str.new hb', h.up, h.kept, h.root, h.rd.new hb', fun ad e => by have := h.low ad e; have := hb'.size; omega, h.below.trans (hb'.mono h.below.size)⟩, hr⟩
              have PT : Hid (∀ W sb a l, BI w W sb d a l v K R xs.length → Calls Tryz.prog 14 #[.pointer (some ⟨sb, 0, none⟩)] W fun e w' => e = .returned (.string (txt R)) ∧ w' = W) := Lib.hid fun W sb a l h => by rw [← h.root]; exact sroot_any h.str
              clear hL hU hzw hvl hkl HI hpos
              generalize opened lg r t a.root a.kept = a5 at *
              generalize l.fall [n, n, n] = l5 at *
              generalize txt R = tR at *
              go_wp2_with (go_at_call 15; (with_reducible refine PF.out.mono ?_); rintro e w5 ⟨rfl, hD5, hk5, hr5, hz5, hb5⟩)
              go_wp2_with (go_at_call 10; (with_reducible refine (PO.out _ hD5 hk5 hz5 hr5 hb5).mono ?_); rintro e w6 ⟨sb6, rfl, hI6⟩)
              go_wp2_with (go_at_call 13; (with_reducible refine (PN.out _ _ _ _ hI6).mono ?_); rintro e w7 ⟨v7, c7, rfl, hI7, hr7⟩)
              go_wp2_with (go_at_call 14; (with_reducible refine (PT.out _ _ _ _ hI7).mono ?_); rintro e w7b ⟨rfl, hw7b⟩; subst w7b)
              have H7 := Lib.hid (And.intro hI7 hr7)
              clear hI7 hr7 hI6 hD5 hk5 hr5 hz5 hb5 PF PO PN PT
              obtain ⟨wo, hwo⟩ : ∃ x, x = w7 := ⟨_, rfl⟩
              rw [← hwo] at H7 ⊢
              clear hwo
              go_loopw [23, 24, 122] (fun _ _ i wr => ∃ kk : Nat, i = .int .i64 (kk : Int) ∧ kk ≤ K.length ∧ wr = wo) (fun _ _ i _ => K.length - (intOf i).toNat)
              case atStart => exact ⟨0, rfl, Nat.zero_le _, rfl⟩
              case round =>
                obtain ⟨kk, rfl, hk, rfl⟩ := hrel
                by_cases hkt : kk < K.length
                · have hkt' : (kk : Int) < (K.length : Int) := by omega
                  have hk0 : (0 : Int) ≤ (kk : Int) := by omega
                  obtain ⟨b7, o7, rfl, hc7⟩ := H7.out.2 kk (by rw [List.length_map]; exact hkt)
                  obtain ⟨b8, o8, rfl, hc8⟩ := H7.out.1.rd kk (by rw [List.length_map]; exact hkt)
                  generalize txt ((K.map (·.1)).getD kk []) = tk at hc7 hc8
                  go_wp2
                  go_roundw
                  case rel => exact ⟨kk + 1, by go_num, by omega, trivial⟩
                  case measure => simp [intOf]; omega
                · have hkt' : (K.length : Int) ≤ (kk : Int) := by omega
                  go_wp2
                  go_roundw
                  case rel => exact ⟨jj + 1, sb6, a5, l5, by go_num, by omega, Lib.hid H7.out.1⟩
                  case measure => simp [intOf]; omega
            · have hlt' : (ns.length : Int) ≤ (jj : Int) := by omega
              go_wp2
              go_ret
              exact ⟨rfl, HI.out.below⟩
end Go.Proofs.YtogihpofkjpokaaGreatDoor
