/- The walk of the document's Node. The walk of the document's eight. The walks of the document's count and Total. -/
import Derived.Test.YtfjlkphpeneahaaDoorTBytes
import Derived.Test.YtfjlkphpeneahaaDoorDLev
import Derived.Test.YtfjlkphpeneahaaDoorM2
namespace Go.Proofs.YtfjlkphpeneahaaDoor
open Go Go.RowKit

set_option maxRecDepth 100000 in
set_option maxHeartbeats 2000000 in
theorem rnode_any {w : World} (lev : Nat) (hlev : lev < 256) {a : Option Addr} {l : List It} {c : Nat} (hR : RdP w a l) (hl : l.length ≤ 16) (hx : ∀ x ∈ l, x.1.length ≤ 20000 ∧ x.2.length ≤ 20000) :
    Calls Tryd.prog 32 #[.int .i64 (lev : Int), .slice a l.length c] w fun e w' => e = .returned (.string (txt (nodeL lev l))) ∧ Below w.heap.size w w' := by
  have hl' : (l.length : Int) ≤ 16 := by omega
  have hlev' : (lev : Int) < 256 := by omega
  have hb0 : Below w.heap.size w (w.alloc (.cells #[.int .u8 80, .int .u8 (lev : Int), .int .u8 (l.length : Int)] 5)) := (Below.refl _ _).alloc (Nat.le_refl _) _
  have h1 := head_run lev l.length hlev (by omega) w
  have HR := Lib.hid (And.intro hR hx)
  have HS : Hid (∀ i, i < l.length → binOp .add 9 (.string (txt (node0 lev l.length ++ ((l.take i).map itemL).flatten))) (.string (txt (itemL (itD l i)))) = pure (.string (txt (node0 lev l.length ++ ((l.take (i + 1)).map itemL).flatten)))) := Lib.hid fun i hi => by
    have e : node0 lev l.length ++ ((l.take (i + 1)).map itemL).flatten = (node0 lev l.length ++ ((l.take i).map itemL).flatten) ++ itemL (itD l i) := by
      rw [take_itD hi, List.map_append, List.flatten_append, List.append_assoc]
      simp
    rw [e]
    refine cat _ _ ?_
    have h2 : ((l.take i).map itemL).flatten.length ≤ i * 40004 := by
      have h3 : ∀ m : List It, (∀ x ∈ m, x.1.length ≤ 20000 ∧ x.2.length ≤ 20000) → (m.map itemL).flatten.length ≤ m.length * 40004 := fun m => by
        induction m with
        | nil => intro _; simp
        | cons y m ih =>
          intro hm
          rw [List.map_cons, List.flatten_cons, List.length_append, itemL_len, List.length_cons]
          have := hm y (by simp)
          have := ih fun x hx => hm x (by simp [hx])
          omega
      have := h3 (l.take i) fun x hx' => hx x (List.mem_of_mem_take hx')
      rw [List.length_take, Nat.min_eq_left (by omega)] at this
      exact this
    have h4 := hx _ (itD_mem hi)
    rw [List.length_append, itemL_len]
    have : (node0 lev l.length).length = 3 := rfl
    omega
  have h00 : node0 lev l.length = node0 lev l.length ++ ((l.take 0).map itemL).flatten := by simp
  have HE : Hid (node0 lev l.length ++ ((l.take l.length).map itemL).flatten = nodeL lev l) := Lib.hid (by rw [List.take_length, nodeL_eq])
  rw [h00] at h1
  clear hR hx h00
  obtain ⟨T, hT⟩ : ∃ T : Nat → Bs, ∀ i, T i = node0 lev l.length ++ ((l.take i).map itemL).flatten := ⟨_, fun _ => rfl⟩
  rw [← hT] at h1
  have HS2 : Hid (∀ i, i < l.length → binOp .add 9 (.string (txt (T i))) (.string (txt (itemL (itD l i)))) = pure (.string (txt (T (i + 1))))) := Lib.hid fun i hi => by rw [hT, hT]; exact HS.out i hi
  have HE2 : Hid (T l.length = nodeL lev l) := Lib.hid (by rw [hT]; exact HE.out)
  clear HS HE hT
  go_enter Tryd.func32, Tryd.ntmps32
  go_wp2
  generalize w.alloc (.cells #[.int .u8 80, .int .u8 (lev : Int), .int .u8 (l.length : Int)] 5) = W1 at *
  go_loopw [5, 6] (fun s i wr => ∃ ii : Nat, i = .int .i64 (ii : Int) ∧ ii ≤ l.length ∧ s = .string (txt (T ii)) ∧ Hid (Below w.heap.size w wr)) (fun _ i _ => l.length - (intOf i).toNat)
  case atStart => exact ⟨0, rfl, Nat.zero_le _, rfl, Lib.hid hb0⟩
  case round =>
    obtain ⟨ii, rfl, hi, rfl, HB⟩ := hrel
    by_cases hlt : ii < l.length
    · have hlt' : (ii : Int) < (l.length : Int) := by omega
      have hi0 : (0 : Int) ≤ (ii : Int) := by omega
      obtain ⟨b, off, rfl, k1, k2⟩ := (HR.out.1.new HB.out) ii hlt
      have P := Lib.hid (fun W => rbytes_any (itD l ii) (HR.out.2 _ (itD_mem hlt)) W)
      have hc := HS2.out ii hlt
      unfold iv at P
      generalize txt (itemL (itD l ii)) = tt at *
      generalize itD l ii = x at *
      obtain ⟨xk, xv⟩ := x
      dsimp only at k1 k2 P
      generalize txt (T ii) = t1 at *
      obtain ⟨t2, ht2⟩ : ∃ t2, txt (T (ii + 1)) = t2 := ⟨_, rfl⟩
      rw [ht2] at hc
      have HT := Lib.hid ht2
      clear ht2
      go_wp2_with (go_at_call 34; (with_reducible refine (P.out _).mono ?_); rintro e w2 ⟨rfl, hb2⟩)
      go_roundw
      case rel => exact ⟨ii + 1, by go_num, by omega, by rw [HT.out], Lib.hid (HB.out.trans (hb2.mono HB.out.size))⟩
      case measure => simp [intOf]; omega
    · have hlt' : (l.length : Int) ≤ (ii : Int) := by omega
      have e : ii = l.length := by omega
      subst e
      rw [HE2.out]
      go_wp2
      go_ret
      exact ⟨rfl, HB.out⟩
end Go.Proofs.YtfjlkphpeneahaaDoor
namespace Go.Proofs.YtfjlkphpeneahaaDoor
open Go Go.RowKit
attribute [-go_sem] Builtin.append_

set_option maxRecDepth 100000 in
set_option maxHeartbeats 2000000 in
theorem reight_any (T : Nat) (hT : T < 9223372036854775808) (w : World) : Calls Tryd.prog 36 #[.int .i64 (T : Int)] w fun e w' => e = .returned (.string (txt (be8 T))) ∧ Below w.heap.size w w' := by
  have hT' : (T : Int) < 9223372036854775808 := by omega
  have HT := Lib.hid hT
  clear hT
  go_enter Tryd.func36, Tryd.ntmps36
  go_wp2
  go_loopw [3, 4] (fun v i wr => ∃ ii : Nat, i = .int .i64 (7 - (ii : Int)) ∧ ii ≤ 8 ∧ Hid (OwB wr w.heap.size v ((be8 T).take ii) ∧ Below w.heap.size w wr)) (fun _ i _ => (intOf i + 1).toNat)
  case atStart => exact ⟨0, rfl, by omega, Lib.hid ⟨by rw [List.take_zero]; exact World.ownsRow_nil _ _ _ _, Below.refl _ _⟩⟩
  case round =>
    obtain ⟨ii, rfl, hi, HI⟩ := hrel
    have hwz : w.heap.size ≤ wr.heap.size := HI.out.2.size
    by_cases hlt : ii < 8
    · have i0 : (0 : Int) ≤ 7 - (ii : Int) := by omega
      have i1 : (0 : Int) ≤ 8 * (7 - (ii : Int)) := by omega
      have i2 : (8 : Int) * (7 - (ii : Int)) ≤ 64 := by omega
      have i3 : ((8 : Int) * (7 - (ii : Int))).toNat = 56 - 8 * ii := by omega
      have hb8 := be8_at T ii hlt
      have htk := be8_take T ii hlt
      obtain ⟨bb, hbb⟩ : ∃ bb, (be8 T).getD ii 0 = bb := ⟨_, rfl⟩
      rw [hbb] at hb8 htk
      obtain ⟨q, hq⟩ : ∃ q, (T : Int) / 2 ^ (56 - 8 * ii) = q := ⟨_, rfl⟩
      rw [hq] at hb8
      obtain ⟨ex, hex⟩ : ∃ ex : Nat, 56 - 8 * ii = ex := ⟨_, rfl⟩
      rw [hex] at hq i3
      obtain ⟨sh, hsh2⟩ : ∃ sh : Int, 7 - (ii : Int) = sh := ⟨_, rfl⟩
      rw [hsh2] at i0 i1 i2 i3 ⊢
      have HSH := Lib.hid (And.intro hsh2 hex)
      have i4 : sh ≤ 7 := by omega
      have hbv : bvs [bb] = #[.int .u8 (q % 256)] := by
        unfold bvs
        simp only [List.map_cons, List.map_nil, bv, hb8]
      have hO := HI.out.1.nochg ((Below.refl wr.heap.size wr).alloc (Nat.le_refl _) (.cells #[.int .u8 (q % 256)] 5))
      have hrw : (wr.alloc (.cells #[.int .u8 (q % 256)] 5)).heap[wr.heap.size]? = some (.cells (bvs [bb]) 5 (0, 0)) := by rw [hbv]; exact heap_alloc_new wr _
      have hlen : ((be8 T).take ii).length ≤ 8 := by rw [List.length_take]; omega
      have HTK := Lib.hid htk
      clear htk hbv hb8 hbb hsh2 hex
      go_wp2_with (at_builtin; refine wpList_bytes rfl (.tmp 9) (.tmp 15) rfl w.heap.size _ ((be8 T).take ii) rfl hO wr.heap.size [bb] 1 rfl rfl hrw (by omega) (by simp; omega) ?_; intro v4 w4 o4 c4)
      have hb4 : Below w.heap.size wr w4 := (((Below.refl wr.heap.size wr).alloc (Nat.le_refl _) _).mono hwz).trans (c4.below (by simp; omega) fun k hk e => by have := (HI.out.1.own k e).1; omega)
      go_roundw
      case rel => exact ⟨ii + 1, by rw [← HSH.out.1]; go_num, by omega, Lib.hid ⟨by rw [HTK.out]; exact o4, HI.out.2.trans hb4⟩⟩
      case measure => simp [intOf]; omega
    · have e8 : ii = 8 := by omega
      subst e8
      have hval := HI.out.1
      rw [show (be8 T).take 8 = be8 T from rfl] at hval
      have hcv := conv_txt hval
      clear hval
      go_wp2
      go_ret
      exact ⟨rfl, HI.out.2⟩
end Go.Proofs.YtfjlkphpeneahaaDoor
namespace Go.Proofs.YtfjlkphpeneahaaDoor
open Go Go.RowKit

/-- What eight bytes tell, or what is more than anything. -/
def cntR (s : Bs) : Nat := if num (s.take 8) ≤ 1099511627776 then num (s.take 8) else 1099511627777
theorem num_mono (l : Bs) : ∀ r : Bs, num l ≤ num (l ++ r)
  | [] => by rw [List.append_nil]; exact Nat.le_refl _
  | b :: r => by
    have h := num_mono (l ++ [b]) r
    rw [List.append_assoc, List.singleton_append] at h
    rw [num_snoc] at h
    omega
termination_by r => r.length
set_option maxRecDepth 100000 in
set_option maxHeartbeats 2000000 in
theorem rcount_any (s : Bs) (hs : 8 ≤ s.length) (w : World) : Calls Tryd.prog 67 #[.string (txt s)] w fun e w' => e = .returned (.int .i64 (cntR s : Int)) ∧ Below w.heap.size w w' := by
  have HV : Hid (∀ i, i < 8 → ∃ b : UInt8, (txt s)[i]? = some b ∧ num (s.take (i + 1)) = num (s.take i) * 256 + b.toNat ∧ num (s.take (i + 1)) ≤ num (s.take 8)) := Lib.hid fun i hi => by
    have hl : i < s.length := by omega
    refine ⟨s[i], get_of_data _ _ (by rw [data_txt, ← List.getElem?_eq_getElem]), take_num hl, ?_⟩
    have e : s.take 8 = s.take (i + 1) ++ (s.take 8).drop (i + 1) := by
      have := (List.take_append_drop (i + 1) (s.take 8)).symm
      rwa [List.take_take, Nat.min_eq_left (by omega)] at this
    rw [e]
    exact num_mono _ _
  have HC1 : Hid (num (s.take 8) ≤ 1099511627776 → cntR s = num (s.take 8)) := Lib.hid fun h => if_pos h
  have HC2 : Hid (∀ i, 1099511627776 < num (s.take (i + 1)) → num (s.take (i + 1)) ≤ num (s.take 8) → cntR s = 1099511627777) := Lib.hid fun i h1 h2 => if_neg (by omega)
  generalize txt s = t at *
  go_enter Tryd.func67, Tryd.ntmps67
  go_wp2
  go_loopw [3, 4] (fun nn i wr => ∃ ii : Nat, i = .int .i64 (ii : Int) ∧ ii ≤ 8 ∧ nn = .int .i64 ((num (s.take ii) : Nat) : Int) ∧ num (s.take ii) ≤ 1099511627776 ∧ Hid (Below w.heap.size w wr)) (fun _ i _ => 8 - (intOf i).toNat)
  case atStart => exact ⟨0, rfl, Nat.zero_le _, rfl, Nat.zero_le _, Lib.hid (Below.refl _ _)⟩
  case round =>
    obtain ⟨ii, rfl, hi, rfl, hn, HB⟩ := hrel
    by_cases hlt : ii < 8
    · have hlt' : (ii : Int) < 8 := by omega
      have hi0 : (0 : Int) ≤ (ii : Int) := by omega
      obtain ⟨b, hg, hn2, hn3⟩ := HV.out ii hlt
      have r0 := run_index t .i64 (ii : Int) ii rfl b hg
      have hb256 := b.toNat_lt
      have h3 := HC2.out ii
      have HN2 := Lib.hid hn2
      generalize num (s.take ii) = n at *
      have hn' : (n : Int) ≤ 1099511627776 := by omega
      by_cases hm : n * 256 + b.toNat ≤ 1099511627776
      · have hm' : (n : Int) * 256 + (b.toNat : Int) ≤ 1099511627776 := by omega
        clear h3 hn2 hn3 hg hm
        go_wp2
        go_roundw
        case rel => exact ⟨ii + 1, by go_num, by omega, by rw [HN2.out]; go_num, by rw [HN2.out]; omega, HB⟩
        case measure => simp [intOf]; omega
      · have hm' : (1099511627776 : Int) < (n : Int) * 256 + (b.toNat : Int) := by omega
        have HE := Lib.hid (h3 (by omega) hn3)
        clear h3 hn2 hn3 hg hm
        go_wp2
        go_ret
        exact ⟨by rw [HE.out]; rfl, HB.out⟩
    · have hlt' : (8 : Int) ≤ (ii : Int) := by omega
      have e8 : ii = 8 := by omega
      subst e8
      have HE := Lib.hid (HC1.out hn)
      go_wp2
      go_ret
      exact ⟨by rw [HE.out]; rfl, HB.out⟩
theorem cntR_told {x : It} (h : toldOk x = true) : cntR (x.2.drop 32) = cnt x := by
  have h1 := told_len h
  unfold cntR
  rw [List.take_of_length_le (by rw [List.length_drop]; omega)]
  exact if_pos h1.2.2
theorem sum_cnt_take {l : List It} {i : Nat} (h : i < l.length) : ((l.take (i + 1)).map cnt).sum = ((l.take i).map cnt).sum + cnt (itD l i) := by
  rw [take_itD h, List.map_append, List.sum_append]; simp
theorem sum_cnt_le : ∀ l : List It, (∀ x ∈ l, toldOk x = true) → (l.map cnt).sum ≤ l.length * 1099511627776
  | [], _ => by simp
  | x :: l, h => by
    have h1 := sum_cnt_le l fun y hy => h y (by simp [hy])
    have h2 := told_len (h x (by simp))
    rw [List.map_cons, List.sum_cons, List.length_cons, Nat.add_mul]
    omega
set_option maxRecDepth 100000 in
set_option maxHeartbeats 2000000 in
theorem rtotal_any {w : World} (lev : Nat) {a : Option Addr} {l : List It} {c : Nat} (hR : RdP w a l) (hl : l.length ≤ 1000) (ht : lev ≠ 0 → ∀ x ∈ l, toldOk x = true) :
    Calls Tryd.prog 37 #[.int .i64 (lev : Int), .slice a l.length c] w fun e w' => e = .returned (.int .i64 (totL lev l : Int)) ∧ Below w.heap.size w w' := by
  have hl' : (l.length : Int) ≤ 1000 := by omega
  have HR := Lib.hid (And.intro hR ht)
  clear hR ht
  by_cases h0 : lev = 0
  · have HT : Hid (totL lev l = l.length) := Lib.hid (by unfold totL; rw [if_pos h0])
    subst h0
    rw [HT.out]
    have e0 : ((0 : Nat) : Int) = 0 := rfl
    rw [e0]
    clear HR HT
    go_enter Tryd.func37, Tryd.ntmps37
    go_wp2
    go_loopw [5, 6] (fun s i wr => ∃ ii : Nat, i = .int .i64 (ii : Int) ∧ ii ≤ l.length ∧ s = .int .i64 (ii : Int) ∧ Hid (Below w.heap.size w wr)) (fun _ i _ => l.length - (intOf i).toNat)
    case atStart => exact ⟨0, rfl, Nat.zero_le _, rfl, Lib.hid (Below.refl _ _)⟩
    case round =>
      obtain ⟨ii, rfl, hi, rfl, HB⟩ := hrel
      by_cases hlt : ii < l.length
      · have hlt' : (ii : Int) < (l.length : Int) := by omega
        go_wp2
        go_roundw
        case rel => exact ⟨ii + 1, by go_num, by omega, by go_num, HB⟩
        case measure => simp [intOf]; omega
      · have hlt' : (l.length : Int) ≤ (ii : Int) := by omega
        have e : ii = l.length := by omega
        subst e
        go_wp2
        go_ret
        exact ⟨rfl, HB.out⟩
  · have hq2 : ((lev : Int) == 0) = false := by rw [beq_eq_false_iff_ne]; omega
    have hq3 : ¬ (lev : Int) = 0 := by omega
    have HT : Hid (totL lev l = (l.map cnt).sum) := Lib.hid (by unfold totL; rw [if_neg h0])
    have HTD := Lib.hid (HR.out.2 h0)
    clear h0
    go_enter Tryd.func37, Tryd.ntmps37
    go_wp2
    go_loopw [5, 6] (fun s i wr => ∃ ii : Nat, i = .int .i64 (ii : Int) ∧ ii ≤ l.length ∧ s = .int .i64 ((((l.take ii).map cnt).sum : Nat) : Int) ∧ Hid (Below w.heap.size w wr)) (fun _ i _ => l.length - (intOf i).toNat)
    case atStart => exact ⟨0, rfl, Nat.zero_le _, rfl, Lib.hid (Below.refl _ _)⟩
    case round =>
      obtain ⟨ii, rfl, hi, rfl, HB⟩ := hrel
      by_cases hlt : ii < l.length
      · have hlt' : (ii : Int) < (l.length : Int) := by omega
        have hi0 : (0 : Int) ≤ (ii : Int) := by omega
        obtain ⟨b, off, rfl, k1, k2⟩ := (HR.out.1.new HB.out) ii hlt
        have htd := HTD.out _ (itD_mem hlt)
        have hln := told_len htd
        have hcR := cntR_told htd
        have P := Lib.hid (fun W => rcount_any ((itD l ii).2.drop 32) (by rw [List.length_drop]; omega) W)
        have hst := sum_cnt_take hlt
        have hle := sum_cnt_le (l.take ii) fun x hx => HTD.out x (List.mem_of_mem_take hx)
        rw [List.length_take, Nat.min_eq_left hi] at hle
        rw [hcR] at P
        have hcut : (txt (itD l ii).2).extract 32 (txt (itD l ii).2).size = txt ((itD l ii).2.drop 32) := by rw [end_txt]; rfl
        have zv := txt_size (itD l ii).2
        have zv' : ((txt (itD l ii).2).size : Int) = 40 := by omega
        have HST := Lib.hid hst
        have hsl : ∀ W : World, (Instr.slice 9 (.string (txt (itD l ii).2)) (some (.int .i64 32)) none none).run Tryd.prog W = .ok (.string (txt ((itD l ii).2.drop 32))) W := fun W => by
          rw [run_slice_string_l (P := Tryd.prog) W 9 (txt (itD l ii).2) Tryd.underlying9 .i64 _ (by omega) (by omega), ← hcut]
          rfl
        generalize ((l.take ii).map cnt).sum = S at *
        generalize txt ((itD l ii).2.drop 32) = td at *
        generalize txt (itD l ii).2 = tv at *
        generalize txt (itD l ii).1 = tk at *
        generalize cnt (itD l ii) = C at *
        have hSC : (S : Int) + (C : Int) ≤ 2000000000000000 := by omega
        clear hst hle hln htd hcR hcut zv
        go_wp2_with (go_at_call 67; (with_reducible refine (P.out _).mono ?_); rintro e w2 ⟨rfl, hb2⟩)
        go_roundw
        case rel => exact ⟨ii + 1, by go_num, by omega, by rw [HST.out]; go_num, Lib.hid (HB.out.trans (hb2.mono HB.out.size))⟩
        case measure => simp [intOf]; omega
      · have hlt' : (l.length : Int) ≤ (ii : Int) := by omega
        have e : l.take ii = l := List.take_of_length_le (by omega)
        rw [e]
        clear e
        go_wp2
        go_ret
        exact ⟨by rw [HT.out]; rfl, HB.out⟩
end Go.Proofs.YtfjlkphpeneahaaDoor
