/- The walk of Both.Agree. -/
import Derived.Test.YtceejjocimgbmaaDo
namespace Go.Proofs.Ytceejjocimgbmaa
open Go Go.RowKit Go.Maps

section
variable {K : Nat → Prop} {base : Nat} {w0 w : World} {d r : Nat} {lp lr : Lg}
/-- What Names answers. -/
def Nms (w w' : World) (l : Lg) (e : Ending) : Prop := ∃ a c, e = .returned (.slice a l.fs.length c) ∧ RdS w' a (l.fs.map (·.1)) ∧ Below w.heap.size w w'
theorem tp_names (h : T K base w0 w d r lp lr) (hlen : lp.fs.length ≤ 1000) : Calls Try.prog 11 #[dp d] w fun e w' => Nms w w' lp e := by
  obtain ⟨D, R, ⟨s, hA, rfl, hG⟩, _⟩ := h.ex
  refine (names_any hA (by rw [← lg_len]; omega)).mono ?_
  rintro e w' ⟨a, c, rfl, hR, _, hb⟩
  refine ⟨a, c, by rw [lg_len], ?_, hb⟩
  rw [show s.lg.fs = on F.lg s.fs from rfl, show (on F.lg s.fs).map (·.1) = s.fs.map (·.1) by unfold on; simp]
  exact hR
theorem tr_names (h : T K base w0 w d r lp lr) (hlen : lr.fs.length ≤ 1000) : Calls Try.prog 34 #[dp r] w fun e w' => Nms w w' lr e := by
  obtain ⟨D, R, hD, ⟨u, hu, hr, hR⟩, _⟩ := h.ex
  refine (rnames_any hu (by omega)).mono ?_
  rintro e w' ⟨a, c, rfl, hR, _, hb⟩
  exact ⟨a, c, rfl, hR, hb⟩
theorem tp_used (h : T K base w0 w d r lp lr) : Calls Try.prog 19 #[dp d] w fun e w' => e = .returned (.int .i64 (lp.used : Int)) ∧ w' = w := by
  obtain ⟨D, R, ⟨s, hA, rfl, hG⟩, _⟩ := h.ex
  rw [used_lg, ← hA.used]
  exact used_any hA
theorem tr_used (h : T K base w0 w d r lp lr) (hlen : lr.fs.length ≤ 1000) (ho : lr.Ok) : Calls Try.prog 35 #[dp r] w fun e w' => e = .returned (.int .i64 (lr.used : Int)) ∧ w' = w := by
  obtain ⟨D, R, hD, ⟨u, hu, hr, hR⟩, _⟩ := h.ex
  exact rused_any hu (by omega) ho.most
theorem tp_down (h : T K base w0 w d r lp lr) : Calls Try.prog 9 #[dp d] w fun e w' => e = .returned (.bool lp.down) ∧ w' = w := by
  obtain ⟨D, R, ⟨s, hA, rfl, hG⟩, _⟩ := h.ex
  exact down_any hA
theorem tr_off (h : T K base w0 w d r lp lr) : w.cell? ⟨r, 3, none⟩ = some (.bool lr.down) := by
  obtain ⟨D, R, hD, ⟨u, hu, hr, hR⟩, _⟩ := h.ex
  exact hu.c3
theorem tp_read (h : T K base w0 w d r lp lr) (n : ByteArray) : Calls Try.prog 17 #[dp d, .string n] w fun e w' => e = .returned (.tuple #[.string (txt (lp.readS n.data.toList)), .int .i64 (lp.findC n.data.toList)]) ∧ w' = w := by
  obtain ⟨D, R, hD, _⟩ := h.ex
  exact read_any hD n
theorem tr_read (h : T K base w0 w d r lp lr) (hlen : lr.fs.length ≤ 1000) (n : ByteArray) : Calls Try.prog 36 #[dp r, .string n] w fun e w' => e = .returned (.tuple #[.string (txt (lr.readS n.data.toList)), .int .i64 (lr.findC n.data.toList)]) ∧ ∃ q, w' = w.drewN q := by
  obtain ⟨D, R, hD, ⟨u, hu, hr, hR⟩, _⟩ := h.ex
  exact rread_any hu hlen n
end
theorem RdS.new {w w' : World} {a : Option Addr} {xs : List (List UInt8)} (h : RdS w a xs) (hb : Below w.heap.size w w') : RdS w' a xs := h.keep (Ch.of_new (S := fun _ => False) hb) fun _ _ => id

set_option maxRecDepth 100000 in
set_option maxHeartbeats 8000000 in
theorem agree_any {K : Nat → Prop} {base : Nat} {w0 w : World} {d r : Nat} {l : Lg} (h : T K base w0 w d r l l) (hf : l.Fine) (hlen : l.fs.length ≤ 1000) :
    Calls Try.prog 14 #[.agg #[dp d, dp r]] w fun e w' => e = .returned (.bool true) ∧ Below w.heap.size w w' := by
  have hok := h.ok hf
  have hB : Below w.heap.size w (w.alloc (.cells #[dp d, dp r] 34)) := (Below.refl _ _).alloc (Nat.le_refl _) _
  have hP := h.new hB
  have r0 : (w.alloc (.cells #[dp d, dp r] 34)).heap[w.heap.size]? = some (.cells #[dp d, dp r] 34 (0, 0)) := heap_alloc_new w _
  have HP := Lib.hid (And.intro hP (And.intro r0 hB))
  have HT := Lib.hid (fun V (hb : Below (w.alloc (.cells #[dp d, dp r] 34)).heap.size (w.alloc (.cells #[dp d, dp r] 34)) V) => hP.new hb)
  clear h hB hP r0
  have HN1 := Lib.hid (fun V (hV : T K base w0 V d r l l) => tp_names hV hlen)
  have HN2 := Lib.hid (fun V (hV : T K base w0 V d r l l) => tr_names hV hlen)
  have HU1 := Lib.hid (fun V (hV : T K base w0 V d r l l) => tp_used hV)
  have HU2 := Lib.hid (fun V (hV : T K base w0 V d r l l) => tr_used hV hlen hok)
  have HD1 := Lib.hid (fun V (hV : T K base w0 V d r l l) => tp_down hV)
  have HR1 := Lib.hid (fun V (hV : T K base w0 V d r l l) => tp_read hV)
  have HR2 := Lib.hid (fun V (hV : T K base w0 V d r l l) => tr_read hV hlen)
  unfold dp at HP HT HN1 HN2 HU1 HU2 HD1 HR1 HR2 ⊢
  go_enter Try.func14, Try.ntmps14
  go_wp2
  generalize w.alloc (.cells #[.pointer (some ⟨d, 0, none⟩), .pointer (some ⟨r, 0, none⟩)] 34) = W1 at *
  generalize hbb : w.heap.size = bb at *
  have q0 : W1.cell? ⟨bb, 0, none⟩ = some (.pointer (some ⟨d, 0, none⟩)) := cell_of_row _ _ _ _ _ _ HP.out.2.1
  have q1 : W1.cell? ⟨bb, 1, none⟩ = some (.pointer (some ⟨r, 0, none⟩)) := cell_of_row _ _ _ _ _ _ HP.out.2.1
  have HC : Hid (∀ V, Below W1.heap.size W1 V → V.cell? ⟨bb, 0, none⟩ = some (.pointer (some ⟨d, 0, none⟩)) ∧ V.cell? ⟨bb, 1, none⟩ = some (.pointer (some ⟨r, 0, none⟩))) := Lib.hid fun V hb => ⟨(Ch.of_new (S := fun _ => False) hb).cell q0 id, (Ch.of_new (S := fun _ => False) hb).cell q1 id⟩
  go_region_held3 (fun V => V.cell? ⟨bb, 0, none⟩ = some (.pointer (some ⟨d, 0, none⟩)) ∧ V.cell? ⟨bb, 1, none⟩ = some (.pointer (some ⟨r, 0, none⟩)))
    (first | exact ⟨q0, q1⟩ | exact HC.out _ hb1 | exact HC.out _ hb2)
    (first
      | (go_at_call 11; (with_reducible refine (HN1.out _ HP.out.1.drew).mono ?_); rintro e w1 ⟨a1, c1, rfl, hS1, hb1'⟩; have hb1 : Below W1.heap.size W1 w1 := undrew hb1')
      | (go_at_call 34; (with_reducible refine (HN2.out _ (HT.out _ hb1)).mono ?_); rintro e w2 ⟨a2, c2, rfl, hS2, hb2'⟩; have hb2 : Below W1.heap.size W1 w2 := Below.trans hb1 (hb2'.mono hb1.size)))
  all_goals (
    obtain ⟨z0, z1⟩ := HC.out _ hb2
    have HV := Lib.hid (And.intro (HT.out _ hb2) (And.intro (hS1.new hb2') (And.intro hS2 hb2)))
    have z3 := tr_off HV.out.1
    clear hb1 hb2 hb1' hb2' hS1 hS2 q0 q1
    have HU1' : Hid (∀ q, Calls Try.prog 19 #[.pointer (some ⟨d, 0, none⟩)] (w2.drewN q) fun e w' => e = .returned (.int .i64 (l.used : Int)) ∧ w' = w2.drewN q) := Lib.hid fun q => HU1.out _ (HV.out.1.drewN q)
    have HU2' : Hid (∀ q, Calls Try.prog 35 #[.pointer (some ⟨r, 0, none⟩)] (w2.drewN q) fun e w' => e = .returned (.int .i64 (l.used : Int)) ∧ w' = w2.drewN q) := Lib.hid fun q => HU2.out _ (HV.out.1.drewN q)
    have HD1' : Hid (∀ q, Calls Try.prog 9 #[.pointer (some ⟨d, 0, none⟩)] (w2.drewN q) fun e w' => e = .returned (.bool l.down) ∧ w' = w2.drewN q) := Lib.hid fun q => HD1.out _ (HV.out.1.drewN q)
    generalize l.down = dn at *
    go_wp2
    go_quiet ((first | (go_at_call 19; exact Calls.quiet_of_same (HU1'.out _)) | (go_at_call 35; exact Calls.quiet_of_same (HU2'.out _)) | (go_at_call 9; exact Calls.quiet_of_same (HD1'.out _))))
    have HV2 : Hid (T K base w0 (w2.drewN nq) d r l l ∧ RdS (w2.drewN nq) a1 (l.fs.map (·.1)) ∧ RdS (w2.drewN nq) a2 (l.fs.map (·.1)) ∧ Below W1.heap.size W1 (w2.drewN nq) ∧ (w2.drewN nq).cell? ⟨bb, 0, none⟩ = some (.pointer (some ⟨d, 0, none⟩)) ∧ (w2.drewN nq).cell? ⟨bb, 1, none⟩ = some (.pointer (some ⟨r, 0, none⟩))) :=
      Lib.hid ⟨HV.out.1.drewN nq, HV.out.2.1.keep (Ch.drewN (fun _ => False) _ nq) (fun _ _ => id), HV.out.2.2.1.keep (Ch.drewN (fun _ => False) _ nq) (fun _ _ => id), Below.trans HV.out.2.2.2 ((Ch.new (Ch.drewN _ w2 nq)).mono HV.out.2.2.2.size), z0, z1⟩
    clear HV z0 z1 z3 HU1' HU2' HD1'
    generalize w2.drewN nq = V at *
    have hlI : (l.fs.length : Int) ≤ 1000 := by omega
    go_wp2
    go_loopw [44] (fun i wr => ∃ (ii : Nat), i = .int .i64 (ii : Int) ∧ ii ≤ l.fs.length ∧ Hid (Ch (fun _ => False) V wr)) (fun i _ => l.fs.length - (intOf i).toNat)
    case atStart => exact ⟨0, rfl, Nat.zero_le _, Lib.hid (Ch.refl _ _)⟩
    case round =>
      obtain ⟨ii, rfl, hi, HCW⟩ := hrel
      by_cases hlt : ii < l.fs.length
      · have hlt' : (ii : Int) < (l.fs.length : Int) := by omega
        have hi0 : (0 : Int) ≤ (ii : Int) := by omega
        have hlm : ii < (l.fs.map (·.1)).length := by rw [List.length_map]; exact hlt
        obtain ⟨b1, o1, rfl, k1⟩ := HV2.out.2.1 ii hlm
        obtain ⟨b2, o2, rfl, k2⟩ := HV2.out.2.2.1 ii hlm
        have k1' := HCW.out.cell k1 id
        have k2' := HCW.out.cell k2 id
        have y0 := HCW.out.cell HV2.out.2.2.2.2.1 id
        have y1 := HCW.out.cell HV2.out.2.2.2.2.2 id
        have HTW := Lib.hid (HV2.out.1.new HCW.out.new)
        clear k1 k2 hlm
        generalize (⟨((l.fs.map (·.1)).getD ii []).toArray⟩ : ByteArray) = nm at *
        have HA := Lib.hid (HR1.out _ HTW.out nm)
        have HB := Lib.hid (HR2.out _ HTW.out nm)
        have hfc : (0 : Int) ≤ l.findC nm.data.toList ∧ l.findC nm.data.toList ≤ 4 := by
          unfold Lg.findC
          split
          · omega
          · split
            · split <;> omega
            · omega
        generalize txt (l.readS nm.data.toList) = ss at *
        generalize l.findC nm.data.toList = cc at *
        have hbs : ∀ x : ByteArray, (x.toList == x.toList) = true := fun x => by simp
        go_wp2_with (first
          | (go_at_call 17; (with_reducible refine HA.out.mono ?_); rintro e w3 ⟨rfl, rfl⟩)
          | (go_at_call 36; (with_reducible refine HB.out.mono ?_); rintro e w4 ⟨rfl, q, rfl⟩))
        go_roundw
        case rel => exact ⟨ii + 1, by go_num, by omega, Lib.hid (HCW.out.tr (Ch.drewN _ _ q))⟩
        case measure => simp [intOf]; omega
      · have hlt' : (l.fs.length : Int) ≤ (ii : Int) := by omega
        go_wp2
        go_ret
        refine ⟨rfl, ?_⟩
        have hb3 := Below.trans HV2.out.2.2.2.1 (HCW.out.new.mono HV2.out.2.2.2.1.size)
        rw [hbb]
        exact Below.trans HP.out.2.2 (hb3.mono (by have := HP.out.2.2.size; omega)))
end Go.Proofs.Ytceejjocimgbmaa
