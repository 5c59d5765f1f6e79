/- Walk of the document's Sorted: it answers the last of each key, rising. -/
import Derived.Test.YtlgamaldngkdnaaLast
import Derived.Test.YtlgamaldngkdnaaSortR
namespace Go.Proofs.Ytlgamaldngkdnaa
open Go Go.RowKit

def LeastI (xs : List Pr) (n : Nat) (s : ByteArray) (l : Value) (ii : Nat) : Prop := (l = .int .i64 (-1) ∧ ∀ j, j < ii → bey n s (ky xs j) = false) ∨ ∃ m : Nat, l = .int .i64 (m : Int) ∧ m < xs.length ∧ bey n s (ky xs m) = true ∧ MinI xs n s ii m
theorem LeastI.skip {xs : List Pr} {n : Nat} {s : ByteArray} {l : Value} {ii : Nat} (h : LeastI xs n s l ii) (hb : bey n s (ky xs ii) = false) : LeastI xs n s l (ii + 1) := by
  rcases h with ⟨e, h⟩ | ⟨m, e, h1, h2, h3⟩
  · refine .inl ⟨e, fun j hj => ?_⟩
    by_cases e2 : j = ii
    · rw [e2]; exact hb
    · exact h j (by omega)
  · exact .inr ⟨m, e, h1, h2, h3.skip hb⟩

set_option maxRecDepth 100000 in
set_option maxHeartbeats 1000000 in
theorem rsorted_sp (a : Option Addr) (cap : Nat) (xs : List Pr) (hn : xs.length ≤ 1000) (w : World) (hr : Rd w a xs) :
    Calls Try.prog 23 #[.slice a xs.length cap] w fun e w' => ∃ v ys, e = .returned v ∧ Ow w' w.heap.size 30 v ys ∧ ys.length ≤ xs.length ∧ Sp xs ys ∧ Ch (fun _ => False) w w' := by
  have hle := le_def
  have HR := Lib.hid hr
  clear hr
  go_enter Try.func23, Try.ntmps23
  go_wp2
  go_loopw [3, 4] (fun v d wr => ∃ (ys : List Pr) (s : ByteArray), d = .string s ∧ Hid (SortI xs ys s ∧ Tk xs ys s) ∧ Ow wr w.heap.size 30 v ys ∧ Ch (fun _ => False) w wr) (fun v d _ => xs.countP (fun x => bey (lenOf v) (strOf d) x.1))
  case atStart => exact ⟨[], ByteArray.empty, rfl, Lib.hid ⟨⟨fun i j _ hj => absurd hj (by simp), .inl rfl, by rw [List.length_nil, Nat.zero_add]; exact List.countP_le_length⟩, (fun x hx => absurd hx (by simp)), fun x _ => .inl rfl⟩, Ow.nil _ _ _, Ch.refl _ _⟩
  case round =>
    obtain ⟨ys, s, rfl, hI, hown, hch⟩ := hrel
    obtain ⟨a3, cap3, rfl, -⟩ := hown.rd
    have hyl : ys.length ≤ xs.length := by have := hI.out.1.2.2; omega
    go_wp2_with fail
    go_loopw [5, 6] (fun l i w2 => ∃ (ii : Nat), i = .int .i64 (ii : Int) ∧ ii ≤ xs.length ∧ Hid (LeastI xs ys.length s l ii) ∧ Ow w2 w.heap.size 30 (.slice a3 ys.length cap3) ys ∧ Ch (fun _ => False) w w2) (fun _ i _ => xs.length - (intOf i).toNat)
    case atStart => exact ⟨0, rfl, Nat.zero_le _, Lib.hid (.inl ⟨rfl, fun j hj => by omega⟩), hown, hch⟩
    case round =>
      clear hown hch
      obtain ⟨ii, rfl, hi, hL, hown, hch⟩ := hrel
      by_cases hlt : ii < xs.length
      · have hlt' : (ii : Int) < (xs.length : Int) := by omega
        have hi0 : (0 : Int) ≤ (ii : Int) := by omega
        have hrd := HR.out.keep hch (fun _ _ => id)
        obtain ⟨b, off, rfl, hc1, _⟩ := hrd ii hlt
        have hdn : ∀ n, Ow (wr.drewN n) w.heap.size 30 (.slice a3 ys.length cap3) ys ∧ Ch (fun _ => False) w (wr.drewN n) := fun n => ⟨hown, hch.tr (Ch.drewN _ wr n)⟩
        have HD := Lib.hid hdn
        clear hdn
        cases hb : bey ys.length s (ky xs ii) with
        | false =>
          obtain ⟨hy0, hls⟩ : 0 < ys.length ∧ lt s (ky xs ii) = false := by
            unfold bey at hb
            simp only [Bool.or_eq_false_iff, beq_eq_false_iff_ne, ne_eq] at hb
            exact ⟨by omega, hb.2⟩
          have hy0' : (0 : Int) < (ys.length : Int) := by omega
          have HL2 := Lib.hid (hL.out.skip hb)
          clear hb
          generalize ky xs ii = kk at hc1 hls
          go_wp2
          go_roundw
          case rel => exact ⟨ii + 1, by go_num, by omega, HL2, hown, hch⟩
          case measure => simp [intOf]; omega
        | true =>
          have HB := Lib.hid (And.intro hlt hb)
          have hbd : ys.length = 0 ∨ lt s (ky xs ii) = true := by
            unfold bey at hb
            simp only [Bool.or_eq_true, beq_iff_eq] at hb
            exact hb
          clear hb
          rcases hL.out with ⟨rfl, hn⟩ | ⟨m, rfl, hm'⟩
          · have HL2 : Hid (LeastI xs ys.length s (.int .i64 (ii : Int)) (ii + 1)) := Lib.hid (.inr ⟨ii, rfl, HB.out.1, HB.out.2, MinI.first hn⟩)
            clear hn hL
            by_cases hy0 : ys.length = 0
            · have hy0' : ¬ (0 : Int) < (ys.length : Int) := by omega
              have HY := Lib.hid hy0
              clear hy0 hbd
              generalize ky xs ii = kk at hc1
              go_wp2_with fail
              go_quiet (fail)
              go_wp2
              go_roundw
              case rel => exact ⟨ii + 1, by go_num, by omega, HL2, (HD.out _).1, (HD.out _).2⟩
              case measure => simp [intOf]; omega
            · have hy0' : (0 : Int) < (ys.length : Int) := by omega
              have hls := hbd.resolve_left hy0
              clear hy0 hbd
              generalize ky xs ii = kk at hc1 hls
              go_wp2_with fail
              go_quiet (fail)
              go_wp2
              go_roundw
              case rel => exact ⟨ii + 1, by go_num, by omega, HL2, (HD.out _).1, (HD.out _).2⟩
              case measure => simp [intOf]; omega
          · have hm := Lib.hid hm'
            clear hm' hL
            obtain ⟨b', off', he, hc2, _⟩ := hrd m hm.out.1
            obtain ⟨rfl, rfl⟩ : b = b' ∧ off = off' := by injection he with h; injection h with h1 h2; exact ⟨h1, h2⟩
            clear he hrd
            have hm0 : (0 : Int) ≤ (m : Int) := by omega
            have hml : (m : Int) < (xs.length : Int) := by have := hm.out.1; omega
            have hmn : decide ((m : Int) < 0) = false := by simp
            by_cases hy0 : ys.length = 0
            · have hy0' : ¬ (0 : Int) < (ys.length : Int) := by omega
              clear hy0 hbd
              cases hkm : lt (ky xs m) (ky xs ii) with
              | true =>
                have HL2 : Hid (LeastI xs ys.length s (.int .i64 (m : Int)) (ii + 1)) := Lib.hid (.inr ⟨m, rfl, hm.out.1, hm.out.2.1, hm.out.2.2.stay hkm⟩)
                generalize ky xs ii = kk at hc1 hkm
                generalize ky xs m = km at hc2 hkm
                go_wp2_with fail
                go_quiet (fail)
                go_wp2
                go_roundw
                case rel => exact ⟨ii + 1, by go_num, by omega, HL2, (HD.out _).1, (HD.out _).2⟩
                case measure => simp [intOf]; omega
              | false =>
                have HL2 : Hid (LeastI xs ys.length s (.int .i64 (ii : Int)) (ii + 1)) := Lib.hid (.inr ⟨ii, rfl, HB.out.1, HB.out.2, hm.out.2.2.turn hkm⟩)
                generalize ky xs ii = kk at hc1 hkm
                generalize ky xs m = km at hc2 hkm
                go_wp2_with fail
                go_quiet (fail)
                go_wp2
                go_roundw
                case rel => exact ⟨ii + 1, by go_num, by omega, HL2, (HD.out _).1, (HD.out _).2⟩
                case measure => simp [intOf]; omega
            · have hy0' : (0 : Int) < (ys.length : Int) := by omega
              have hls := hbd.resolve_left hy0
              clear hy0 hbd
              cases hkm : lt (ky xs m) (ky xs ii) with
              | true =>
                have HL2 : Hid (LeastI xs ys.length s (.int .i64 (m : Int)) (ii + 1)) := Lib.hid (.inr ⟨m, rfl, hm.out.1, hm.out.2.1, hm.out.2.2.stay hkm⟩)
                generalize ky xs ii = kk at hc1 hkm hls
                generalize ky xs m = km at hc2 hkm
                go_wp2_with fail
                go_quiet (fail)
                go_wp2
                go_roundw
                case rel => exact ⟨ii + 1, by go_num, by omega, HL2, (HD.out _).1, (HD.out _).2⟩
                case measure => simp [intOf]; omega
              | false =>
                have HL2 : Hid (LeastI xs ys.length s (.int .i64 (ii : Int)) (ii + 1)) := Lib.hid (.inr ⟨ii, rfl, HB.out.1, HB.out.2, hm.out.2.2.turn hkm⟩)
                generalize ky xs ii = kk at hc1 hkm hls
                generalize ky xs m = km at hc2 hkm
                go_wp2_with fail
                go_quiet (fail)
                go_wp2
                go_roundw
                case rel => exact ⟨ii + 1, by go_num, by omega, HL2, (HD.out _).1, (HD.out _).2⟩
                case measure => simp [intOf]; omega
      · have hlt' : (xs.length : Int) ≤ (ii : Int) := by omega
        rcases hL.out with ⟨rfl, hn⟩ | ⟨m, rfl, hm'⟩
        · have HN := Lib.hid hn
          clear hn hL
          go_wp2
          go_ret
          exact ⟨_, ys, rfl, hown, hyl, hI.out.2.sp hI.out.1.1 (by omega) HN.out, hch⟩
        · have hm := Lib.hid hm'
          clear hm' hL
          have hm0 : (0 : Int) ≤ (m : Int) := by omega
          have hml : (m : Int) < (xs.length : Int) := by have := hm.out.1; omega
          obtain ⟨b, off, rfl, hc1, hc2⟩ := (HR.out.keep hch (fun _ _ => id)) m hm.out.1
          have HST := Lib.hid (And.intro (sortI_step hI.out.1 m hm.out.1 hm.out.2.1) (show Tk xs (ys ++ [(ky xs m, vl xs m)]) (ky xs m) from hI.out.2.step (by omega) hm.out.1 hm.out.2.1 hm.out.2.2))
          have hz := hch.size
          generalize ky xs m = kk at hc1 HST
          generalize vl xs m = vv at hc2 HST
          have h2 : Ow (wr.alloc (.cells #[.string kk, .int .i64 vv] 30)) w.heap.size 30 (.slice a3 ys.length cap3) ys := hown.keep (Ch.alloc (fun _ => False) _ _) (fun _ _ _ => id)
          go_wp2_with (at_builtin; refine wpList_pair rfl (.tmp 49) (.tmp 54) 22 30 rfl Try.underlying22 Try.info30 w.heap.size (.slice a3 ys.length cap3) ys rfl h2 _ kk vv rfl (heap_alloc_new _ _) (by omega) (by simp; omega) ?_; intro v' w3 hown3 hc3)
          have hch3 : Ch (fun _ => False) w w3 := (hch.tr (Ch.alloc _ _ _)).trans hc3 (fun j hj h => by omega)
          have hlv : lenOf v' = ys.length + 1 := by
            obtain ⟨a', c', rfl, -⟩ := hown3.rd
            simp [lenOf]
          have HLV := Lib.hid hlv
          clear hown h2 hc1 hc2 hc3 hch hlv
          go_wp2
          go_roundw
          case rel => exact ⟨ys ++ [(kk, vv)], kk, rfl, Lib.hid ⟨HST.out.1.1, HST.out.2⟩, hown3, hch3⟩
          case measure =>
            rw [HLV.out]
            exact HST.out.1.2
end Go.Proofs.Ytlgamaldngkdnaa
