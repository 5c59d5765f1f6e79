/- Which pairs are a map's: the walk of the document's Right. -/
import Derived.Test.YtfjlkphpeneahaaDoorM1
import Derived.BigQuiet
namespace Go.Proofs.YtfjlkphpeneahaaDoor
open Go Go.RowKit

set_option maxRecDepth 100000 in
set_option maxHeartbeats 4000000 in
theorem rright_any {w : World} {a : Option Addr} {l : List It} {c : Nat} (hR : RdP w a l) (hl : l.length ≤ 1000000) (hx : ∀ x ∈ l, x.1.length ≤ 1000000 ∧ x.2.length ≤ 1000000) :
    Calls Tryd.prog 31 #[.slice a l.length c] w fun e w' => e = .returned (.bool (mapOk l)) ∧ Below w.heap.size w w' := by
  have hl' : (l.length : Int) ≤ 1000000 := by omega
  have HR := Lib.hid (And.intro hR hx)
  clear hR hx
  go_enter Tryd.func31, Tryd.ntmps31
  go_wp2
  go_loopw [3] (fun i wr => ∃ ii : Nat, i = .int .i64 (ii : Int) ∧ ii ≤ l.length ∧ Hid (Below w.heap.size w wr ∧ okN l ii = true)) (fun i _ => l.length - (intOf i).toNat)
  case atStart => exact ⟨0, rfl, Nat.zero_le _, Lib.hid ⟨Below.refl _ _, rfl⟩⟩
  case round =>
    obtain ⟨ii, rfl, hi, HB⟩ := hrel
    by_cases hlt : ii < l.length
    · have hlt' : (ii : Int) < (l.length : Int) := by omega
      have hi0 : (0 : Int) ≤ (ii : Int) := by omega
      have hRr := HR.out.1.new HB.out.1
      have hMF := Lib.hid (fun h : okAt l ii = false => mapOk_false hlt h)
      have hMT : Hid (okAt l ii = true → okN l (ii + 1) = true) := Lib.hid fun h => by unfold okN; rw [HB.out.2, h]; rfl
      have hxl := HR.out.2 _ (itD_mem hlt)
      have HN : Hid (∀ q, Below w.heap.size w (wr.drewN q)) := Lib.hid fun q => HB.out.1.trans ((Ch.drewN (fun _ => False) _ q).new.mono HB.out.1.size)
      by_cases h0 : ii = 0
      · subst h0
        have hok := okAt_zero l
        obtain ⟨b, off, rfl, k1, k2⟩ := hRr 0 hlt
        have z1 := txt_size (itD l 0).1
        have z2 := txt_size (itD l 0).2
        have x1 := hxl.1
        have x2 := hxl.2
        have HOK := Lib.hid hok
        generalize itD l 0 = x at *
        obtain ⟨xk, xv⟩ := x
        dsimp only at *
        clear hRr hxl hok
        have e0 : ((0 : Nat) : Int) = 0 := rfl
        rw [e0] at *
        simp only [Nat.zero_mul, Nat.add_zero] at k1 k2
        by_cases h1 : xk.length ≤ 2000
        · have h1' : (xk.length : Int) ≤ 2000 := by omega
          have d1 : decide ((2000 : Int) < (xk.length : Int)) = false := decide_eq_false (by omega)
          by_cases h2 : xv.length ≤ 8000
          · have h2' : (xv.length : Int) ≤ 8000 := by omega
            have d2 : decide ((8000 : Int) < (xv.length : Int)) = false := decide_eq_false (by omega)
            have HM := Lib.hid (hMT.out (HOK.out.trans (decide_eq_true ⟨h1, h2⟩)))
            clear h1 h2
            go_wp2
            go_big_quiet (fail)
            go_wp2
            go_roundw
            case rel => exact ⟨1, by go_num, by omega, Lib.hid ⟨HN.out _, HM.out⟩⟩
            case measure => simp [intOf]; omega
          · have h2' : (8000 : Int) < (xv.length : Int) := by omega
            have d2 : decide ((8000 : Int) < (xv.length : Int)) = true := decide_eq_true h2'
            have HM := Lib.hid (hMF.out (HOK.out.trans (decide_eq_false fun h => h2 h.2)))
            clear h1 h2
            go_wp2
            go_big_quiet (fail)
            go_wp2
            go_ret
            exact ⟨by rw [HM.out]; rfl, HN.out _⟩
        · have h1' : (2000 : Int) < (xk.length : Int) := by omega
          have d1 : decide ((2000 : Int) < (xk.length : Int)) = true := decide_eq_true h1'
          have HM := Lib.hid (hMF.out (HOK.out.trans (decide_eq_false fun h => h1 h.1)))
          clear h1
          go_wp2
          go_big_quiet (fail)
          go_wp2
          go_ret
          exact ⟨by rw [HM.out]; rfl, HN.out _⟩
      · have hp : 0 < ii := by omega
        have hok := okAt_pos l hp
        obtain ⟨b, off, rfl, k1, k2⟩ := hRr ii hlt
        obtain ⟨b', off', he, k3, _⟩ := hRr (ii - 1) (by omega)
        obtain ⟨rfl, rfl⟩ : b = b' ∧ off = off' := by injection he with h; injection h with h1 h2; exact ⟨h1, h2⟩
        have hless := less_txt (itD l (ii - 1)).1 (itD l ii).1
        have z1 := txt_size (itD l ii).1
        have z2 := txt_size (itD l ii).2
        have x1 := hxl.1
        have x2 := hxl.2
        have HOK := Lib.hid hok
        have i1 : (ii : Int) - 1 = ((ii - 1 : Nat) : Int) := by omega
        have i2 : (0 : Int) ≤ (ii : Int) - 1 := by omega
        have i3 : (ii : Int) - 1 < (l.length : Int) := by omega
        have i4 : ((ii : Int) - 1).toNat = ii - 1 := by omega
        have i5 : (0 : Int) < (ii : Int) := by omega
        have d3 : decide ((0 : Int) < (ii : Int)) = true := decide_eq_true i5
        generalize (itD l (ii - 1)).1 = y at *
        generalize itD l ii = x at *
        obtain ⟨xk, xv⟩ := x
        dsimp only at *
        clear hRr hxl hok he i1
        by_cases h1 : xk.length ≤ 2000
        · have h1' : (xk.length : Int) ≤ 2000 := by omega
          have d1 : decide ((2000 : Int) < (xk.length : Int)) = false := decide_eq_false (by omega)
          by_cases h2 : xv.length ≤ 8000
          · have h2' : (xv.length : Int) ≤ 8000 := by omega
            have d2 : decide ((8000 : Int) < (xv.length : Int)) = false := decide_eq_false (by omega)
            cases hlx : ltL y xk with
            | true =>
              rw [hlx] at hless HOK
              have HM := Lib.hid (hMT.out (HOK.out.trans (by rw [decide_eq_true ⟨h1, h2⟩]; rfl)))
              clear h1 h2 hlx
              go_wp2
              go_big_quiet (fail)
              go_wp2
              go_roundw
              case rel => exact ⟨ii + 1, by go_num, by omega, Lib.hid ⟨HN.out _, HM.out⟩⟩
              case measure => simp [intOf]; omega
            | false =>
              rw [hlx] at hless HOK
              have HM := Lib.hid (hMF.out (HOK.out.trans (by rw [Bool.and_false])))
              clear h1 h2 hlx
              go_wp2
              go_big_quiet (fail)
              go_wp2
              go_ret
              exact ⟨by rw [HM.out]; rfl, HN.out _⟩
          · have h2' : (8000 : Int) < (xv.length : Int) := by omega
            have d2 : decide ((8000 : Int) < (xv.length : Int)) = true := decide_eq_true h2'
            have HM := Lib.hid (hMF.out (HOK.out.trans (by rw [decide_eq_false fun h => h2 h.2]; rfl)))
            clear h1 h2
            go_wp2
            go_big_quiet (fail)
            go_wp2
            go_ret
            exact ⟨by rw [HM.out]; rfl, HN.out _⟩
        · have h1' : (2000 : Int) < (xk.length : Int) := by omega
          have d1 : decide ((2000 : Int) < (xk.length : Int)) = true := decide_eq_true h1'
          have HM := Lib.hid (hMF.out (HOK.out.trans (by rw [decide_eq_false fun h => h1 h.1]; rfl)))
          clear h1
          go_wp2
          go_big_quiet (fail)
          go_wp2
          go_ret
          exact ⟨by rw [HM.out]; rfl, HN.out _⟩
    · have hlt' : (l.length : Int) ≤ (ii : Int) := by omega
      have e : ii = l.length := by omega
      subst e
      have HM : Hid (mapOk l = true) := Lib.hid HB.out.2
      go_wp2
      go_ret
      exact ⟨by rw [HM.out]; rfl, HB.out.1⟩
end Go.Proofs.YtfjlkphpeneahaaDoor
