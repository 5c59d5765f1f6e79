/- The stable sort: blocks, then merges. -/
import Derived.Test.YtlgamaldngkdnaaSymA
namespace Go.Proofs.Ytlgamaldngkdnaa
open Go Go.RowKit

/-- From a on, parts of B each are in order. -/
inductive Bk (f : Nat → Pr) (B n : Nat) : Nat → Prop
  | last {a : Nat} : n ≤ a + B → Srt f a n → Bk f B n a
  | step {a : Nat} : Srt f a (a + B) → a + B ≤ n → Bk f B n (a + B) → Bk f B n a
theorem Srt.of {f h : Nat → Pr} {a b : Nat} (k : Srt f a b) (e : ∀ i, a ≤ i → i < b → h i = f i) : Srt h a b := fun p q h1 h2 h3 => by
  rw [e q (by omega) h3, e p h1 (by omega)]
  exact k p q h1 h2 h3
theorem Bk.of {f h : Nat → Pr} {B n a : Nat} (k : Bk f B n a) : (∀ i, a ≤ i → h i = f i) → Bk h B n a := by
  induction k with
  | last h1 h2 => exact fun e => .last h1 (h2.of fun i i1 _ => e i i1)
  | step h1 h2 _ ih => exact fun e => .step (h1.of fun i i1 _ => e i i1) h2 (ih fun i i1 => e i (by omega))
/-- Below a, too. -/
def Pre (f : Nat → Pr) (B n a : Nat) : Prop := ∀ h : Nat → Pr, (∀ i, i < a → h i = f i) → Bk h B n a → Bk h B n 0
theorem Pre.zero (f : Nat → Pr) (B n : Nat) : Pre f B n 0 := fun _ _ k => k
theorem Pre.of {f h : Nat → Pr} {B n a : Nat} (k : Pre f B n a) (e : ∀ i, i < a → h i = f i) : Pre h B n a := fun x hx kx => k x (fun i i1 => (hx i i1).trans (e i i1)) kx
theorem Pre.next {f : Nat → Pr} {B n a : Nat} (k : Pre f B n a) (h : Srt f a (a + B)) (hn : a + B ≤ n) : Pre f B n (a + B) := fun x hx kx =>
  k x (fun i i1 => hx i (by omega)) (.step (h.of fun i _ i2 => hx i i2) hn kx)
theorem Bk.two {f : Nat → Pr} {B n a : Nat} (k : Bk f B n a) (hB : 0 < B) (h : a + 2 * B ≤ n) : Srt f a (a + B) ∧ Srt f (a + B) (a + 2 * B) ∧ Bk f B n (a + 2 * B) := by
  cases k with
  | last h1 h2 => omega
  | step h1 h2 h3 =>
    refine ⟨h1, ?_⟩
    rw [show a + 2 * B = a + B + B by omega] at h ⊢
    cases h3 with
    | last k1 k2 =>
      obtain rfl : n = a + B + B := by omega
      exact ⟨k2, .last (by omega) fun p q _ _ _ => by omega⟩
    | step k1 k2 k3 => exact ⟨k1, k3⟩
theorem Bk.ends {f : Nat → Pr} {B n a : Nat} (k : Bk f B n a) (h : n < a + 2 * B) (hm : a + B < n) : Srt f a (a + B) ∧ Srt f (a + B) n := by
  cases k with
  | last h1 h2 => omega
  | step h1 h2 h3 =>
    refine ⟨h1, ?_⟩
    cases h3 with
    | last k1 k2 => exact k2
    | step k1 k2 k3 => omega
theorem Bk.all {f : Nat → Pr} {B n a : Nat} (k : Bk f B n a) (hm : n ≤ a + B) : Srt f a n := by
  cases k with
  | last h1 h2 => exact h2
  | step h1 h2 h3 =>
    obtain rfl : n = a + B := by omega
    exact h1
/-- As long, and those of one key stand as they stood. -/
def Sim (ds es : List Pr) : Prop := es.length = ds.length ∧ ∀ k, filt k es = filt k ds
theorem Sim.done {ds es fs : List Pr} {a b : Nat} (h : Sim ds es) (d : Done es fs a b) : Sim ds fs := ⟨d.len.trans h.1, fun k => (d.filt k).trans (h.2 k)⟩

set_option maxRecDepth 100000 in
set_option maxHeartbeats 16000000 in
theorem stable_any (w : World) (g cap : Nat) (ds : List Pr) (h : Dat w g ds) (hl : ds.length ≤ 1000) :
    Calls Try.prog 50 #[.slice (some ⟨g, 0, none⟩) ds.length cap, .int .i64 (ds.length : Int), .func (.func 39) #[] #[]] w fun e w' => e = .returned (.tuple #[]) ∧ ∃ es, Dat w' g es ∧ Sim ds es ∧ Srt (pr es) 0 ds.length ∧ Ch (fun k => k = g) w w' := by
  have H := Lib.hid h
  have HIns := Lib.hid (fun V es (hV : Dat V g es) (hes : es.length = ds.length) x y (h1 : x ≤ y) (h2 : y ≤ es.length) => ins_any V g cap es hV x y h1 h2 (by omega))
  have HSym := Lib.hid (fun V es (hV : Dat V g es) (hes : es.length = ds.length) x y z (h1 : x < y) (h2 : y < z) (h3 : z ≤ es.length) (s1 : Srt (pr es) x y) (s2 : Srt (pr es) y z) => sym_any V g cap es hV x y z h1 h2 h3 (by omega) s1 s2)
  clear h
  have hlI : (ds.length : Int) ≤ 1000 := by omega
  have hl0 : (0 : Int) ≤ (ds.length : Int) := by omega
  go_enter Try.func50, Try.ntmps50
  go_wp2
  go_loopw [7, 8] (fun i j wr => ∃ (aa : Nat) (es : List Pr), i = .int .i64 (aa : Int) ∧ j = .int .i64 ((aa : Int) + 20) ∧ aa ≤ ds.length ∧ Hid (Sim ds es ∧ Pre (pr es) 20 ds.length aa ∧ Dat wr g es ∧ Ch (fun k => k = g) w wr)) (fun i _ _ => 1000 - (intOf i).toNat)
  case atStart => exact ⟨0, ds, rfl, rfl, by omega, Lib.hid ⟨⟨rfl, fun _ => rfl⟩, Pre.zero _ _ _, H.out, Ch.refl _ _⟩⟩
  case round =>
    obtain ⟨aa, es, rfl, rfl, haL, HI⟩ := hrel
    have hes := HI.out.1.1
    have ha0 : (0 : Int) ≤ (aa : Int) := by omega
    have haI : (aa : Int) ≤ 1000 := by omega
    by_cases hlt : aa + 20 ≤ ds.length
    · have hlt' : (aa : Int) + 20 ≤ (ds.length : Int) := by omega
      obtain ⟨bb, hbb⟩ : ∃ bb, aa + 20 = bb := ⟨_, rfl⟩
      have hbI : (aa : Int) + 20 = (bb : Int) := by omega
      have HC := Lib.hid (HIns.out wr es HI.out.2.2.1 hes aa bb (by omega) (by omega))
      rw [hes] at HC
      have HBB := Lib.hid hbb
      have hbl : (bb : Int) ≤ (ds.length : Int) := by omega
      have hbl2 : bb ≤ ds.length := by omega
      have hab : (aa : Int) < (bb : Int) := by omega
      have hab2 : aa < bb := by omega
      clear hlt hlt' hbb
      go_wp2_with (go_at_call 53; (with_reducible refine HC.out.mono ?_); rintro e w2 ⟨rfl, fs, hD2, hd2, hc2⟩)
      go_roundw
      case rel =>
        refine ⟨bb, fs, by go_num, by go_num, by omega, Lib.hid ⟨HI.out.1.done hd2, ?_, hD2, HI.out.2.2.2.tr hc2⟩⟩
        have hx := HBB.out
        subst hx
        exact (HI.out.2.1.of fun i hi => hd2.out i (.inl hi)).next hd2.srt hbl2
      case measure => simp [intOf]; omega
    · have hlt' : (ds.length : Int) < (aa : Int) + 20 := by omega
      have HC := Lib.hid (HIns.out wr es HI.out.2.2.1 hes aa ds.length (by omega) (by omega))
      rw [hes] at HC
      have HBk := Lib.hid (fun fs (d : Done es fs aa ds.length) => (HI.out.2.1.of fun i hi => d.out i (.inl hi)) (pr fs) (fun _ _ => rfl) (.last (by omega) d.srt))
      clear hlt
      go_wp2_with (go_at_call 53; (with_reducible refine HC.out.mono ?_); rintro e w2 ⟨rfl, fs, hD2, hd2, hc2⟩)
      have HS : Hid (Sim ds fs ∧ Bk (pr fs) 20 ds.length 0 ∧ Dat w2 g fs ∧ Ch (fun k => k = g) w w2) := Lib.hid ⟨HI.out.1.done hd2, HBk.out fs hd2, hD2, HI.out.2.2.2.tr hc2⟩
      clear HI HC HBk hd2 hD2 hc2 hes
      go_loopw [6, 7, 8, 9] (fun i _ _ _ wr => ∃ (B : Nat) (es : List Pr), i = .int .i64 (B : Int) ∧ 0 < B ∧ B ≤ 2000 ∧ Hid (Sim ds es ∧ Bk (pr es) B ds.length 0 ∧ Dat wr g es ∧ Ch (fun k => k = g) w wr)) (fun i _ _ _ _ => 2000 - (intOf i).toNat)
      case atStart => exact ⟨20, fs, rfl, by omega, by omega, HS⟩
      case round =>
        clear HS
        obtain ⟨B, gs, rfl, hB0, hB2, HI⟩ := hrel
        have hB0' : (0 : Int) < (B : Int) := by omega
        have hB2' : (B : Int) ≤ 2000 := by omega
        by_cases hBn : B < ds.length
        · have hBn' : (B : Int) < (ds.length : Int) := by omega
          obtain ⟨D, hD⟩ : ∃ D, 2 * B = D := ⟨_, rfl⟩
          have hDI : 2 * (B : Int) = (D : Int) := by omega
          have hDI2 : (B : Int) * 2 = (D : Int) := by omega
          have wD : IntKind.i64.wrap (D : Int) = (D : Int) := IntWalk.i64_in _ (by omega)
          have hDb : (D : Int) ≤ 2000 := by omega
          have hD0 : (0 : Int) < (D : Int) := by omega
          have hDB : B < D := by omega
          have hD2 : D ≤ 2000 := by omega
          have HD := Lib.hid hD
          clear hD
          go_wp2
          go_loopw [7, 8] (fun i j wr => ∃ (aa : Nat) (es : List Pr), i = .int .i64 (aa : Int) ∧ j = .int .i64 ((aa : Int) + (D : Int)) ∧ aa ≤ ds.length ∧ Hid (Sim ds es ∧ Pre (pr es) D ds.length aa ∧ Bk (pr es) B ds.length aa ∧ Dat wr g es ∧ Ch (fun k => k = g) w wr)) (fun i _ _ => 1000 - (intOf i).toNat)
          case atStart => exact ⟨0, gs, rfl, by go_num, by omega, Lib.hid ⟨HI.out.1, Pre.zero _ _ _, HI.out.2.1, HI.out.2.2⟩⟩
          case round =>
            clear HI
            obtain ⟨aa, es, rfl, rfl, haL, HI⟩ := hrel
            have hes := HI.out.1.1
            have ha0 : (0 : Int) ≤ (aa : Int) := by omega
            have haI : (aa : Int) ≤ 1000 := by omega
            obtain ⟨mm, hmm⟩ : ∃ mm, aa + B = mm := ⟨_, rfl⟩
            have hmI : (aa : Int) + (B : Int) = (mm : Int) := by omega
            have wm : IntKind.i64.wrap (mm : Int) = (mm : Int) := IntWalk.i64_in _ (by omega)
            have HMM := Lib.hid hmm
            by_cases hlt : aa + D ≤ ds.length
            · have hlt' : (aa : Int) + (D : Int) ≤ (ds.length : Int) := by omega
              obtain ⟨bb, hbb⟩ : ∃ bb, aa + D = bb := ⟨_, rfl⟩
              have hbI : (aa : Int) + (D : Int) = (bb : Int) := by omega
              have wb : IntKind.i64.wrap (bb : Int) = (bb : Int) := IntWalk.i64_in _ (by omega)
              have hT : Srt (pr es) aa mm ∧ Srt (pr es) mm bb ∧ Bk (pr es) B ds.length bb := by
                have := HI.out.2.2.1.two hB0 (by have := HD.out; omega)
                rw [HD.out, hmm, hbb] at this
                exact this
              have HC := Lib.hid (HSym.out wr es HI.out.2.2.2.1 hes aa mm bb (by omega) (by have := HD.out; omega) (by omega) hT.1 hT.2.1)
              unfold SymOk at HC
              rw [hes] at HC
              have HT := Lib.hid hT
              have HBB := Lib.hid hbb
              have hbl : (bb : Int) ≤ (ds.length : Int) := by omega
              have hbl2 : bb ≤ ds.length := by omega
              have hab : (aa : Int) < (bb : Int) := by omega
              have hab2 : aa < bb := by omega
              clear hlt hlt' hbb hmm hT
              go_wp2_with (go_at_call 54; (with_reducible refine HC.out.mono ?_); rintro e w2 ⟨rfl, fs, hD2, hd2, hc2⟩)
              go_roundw
              case rel =>
                refine ⟨bb, fs, by go_num, by go_num, by omega, Lib.hid ⟨HI.out.1.done hd2, ?_, HT.out.2.2.of fun i hi => hd2.out i (.inr hi), hD2, HI.out.2.2.2.2.tr hc2⟩⟩
                have hx := HBB.out
                subst hx
                exact (HI.out.2.1.of fun i hi => hd2.out i (.inl hi)).next hd2.srt hbl2
              case measure => simp [intOf]; omega
            · have hlt' : (ds.length : Int) < (aa : Int) + (D : Int) := by omega
              have hnD : ds.length ≤ aa + D := by omega
              by_cases hmn : mm < ds.length
              · have hmn' : (mm : Int) < (ds.length : Int) := by omega
                have hT : Srt (pr es) aa mm ∧ Srt (pr es) mm ds.length := by
                  have := HI.out.2.2.1.ends (by have := HD.out; omega) (by omega)
                  rw [hmm] at this
                  exact this
                have HC := Lib.hid (HSym.out wr es HI.out.2.2.2.1 hes aa mm ds.length (by omega) hmn (by omega) hT.1 hT.2)
                unfold SymOk at HC
                rw [hes] at HC
                clear hlt hmm hT
                go_wp2_with (go_at_call 54; (with_reducible refine HC.out.mono ?_); rintro e w2 ⟨rfl, fs, hD2, hd2, hc2⟩)
                go_roundw
                case rel => exact ⟨D, fs, by go_num, by omega, by omega, Lib.hid ⟨HI.out.1.done hd2, (HI.out.2.1.of fun i hi => hd2.out i (.inl hi)) (pr fs) (fun _ _ => rfl) (.last hnD hd2.srt), hD2, HI.out.2.2.2.2.tr hc2⟩⟩
                case measure => simp [intOf]; omega
              · have hmn' : (ds.length : Int) ≤ (mm : Int) := by omega
                have HS := Lib.hid (HI.out.2.2.1.all (by omega))
                clear hlt hmm
                go_wp2
                go_roundw
                case rel => exact ⟨D, es, by go_num, by omega, by omega, Lib.hid ⟨HI.out.1, HI.out.2.1 (pr es) (fun _ _ => rfl) (.last hnD HS.out), HI.out.2.2.2⟩⟩
                case measure => simp [intOf]; omega
        · have hBn' : (ds.length : Int) ≤ (B : Int) := by omega
          go_wp2
          go_end0
          exact ⟨rfl, gs, HI.out.2.2.1, HI.out.1, HI.out.2.1.all (by omega), HI.out.2.2.2⟩
end Go.Proofs.Ytlgamaldngkdnaa
