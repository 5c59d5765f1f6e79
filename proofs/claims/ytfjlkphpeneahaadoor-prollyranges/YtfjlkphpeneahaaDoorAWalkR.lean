/- Walk of Print. -/
import Derived.Test.YtfjlkphpeneahaaDoorAWalkQ
import Derived.Deep.DeepCutAuto
namespace Go.Proofs.YtfjlkphpeneahaaDoor.S1
open Go.RowKit

/-- A text with what follows it. -/
def full (l : List UInt8) : List UInt8 := l ++ padL l.length
def shaF (l : List UInt8) : Nat → UInt8 := fun j => (full l).getD j 0
def shaSt (l : List UInt8) : St := run kc (shaF l) ((full l).length / 64) st0
/-- The fingerprint. -/
def shaL (l : List UInt8) : List UInt8 := (shaSt l).text

theorem padL_length (n : Nat) : (padL n).length = 9 + zerosFor n := by simp [padL]; omega
theorem full_mod (l : List UInt8) : (full l).length % 64 = 0 := by
  unfold full; rw [List.length_append, padL_length]; unfold zerosFor; omega

theorem bcell {W w1 : World} (hb : Below W.heap.size W w1) : (∀ b o, b < W.heap.size → w1.cell? ⟨b, o, none⟩ = W.cell? ⟨b, o, none⟩) ∧ (∀ b o, b < W.heap.size → w1.frozen? ⟨b, o, none⟩ = W.frozen? ⟨b, o, none⟩) :=
  ⟨fun b o h => hb.cell (p := ⟨b, o, none⟩) h, fun b o h => hb.frozen (p := ⟨b, o, none⟩) h⟩
theorem Row.eight {w : World} {b : Nat} {l : List (BitVec 32)} (h : Row w b 111 l) (hl : l.length = 8) :
    (w.cell? ⟨b, 0, none⟩ = some (.int .u32 (u (l.getD 0 0))) ∧ w.cell? ⟨b, 1, none⟩ = some (.int .u32 (u (l.getD 1 0))) ∧ w.cell? ⟨b, 2, none⟩ = some (.int .u32 (u (l.getD 2 0))) ∧ w.cell? ⟨b, 3, none⟩ = some (.int .u32 (u (l.getD 3 0))) ∧ w.cell? ⟨b, 4, none⟩ = some (.int .u32 (u (l.getD 4 0))) ∧ w.cell? ⟨b, 5, none⟩ = some (.int .u32 (u (l.getD 5 0))) ∧ w.cell? ⟨b, 6, none⟩ = some (.int .u32 (u (l.getD 6 0))) ∧ w.cell? ⟨b, 7, none⟩ = some (.int .u32 (u (l.getD 7 0))))
    ∧ (w.frozen? ⟨b, 0, none⟩ = false ∧ w.frozen? ⟨b, 1, none⟩ = false ∧ w.frozen? ⟨b, 2, none⟩ = false ∧ w.frozen? ⟨b, 3, none⟩ = false ∧ w.frozen? ⟨b, 4, none⟩ = false ∧ w.frozen? ⟨b, 5, none⟩ = false ∧ w.frozen? ⟨b, 6, none⟩ = false ∧ w.frozen? ⟨b, 7, none⟩ = false) :=
  ⟨⟨h.cell 0 (by omega), h.cell 1 (by omega), h.cell 2 (by omega), h.cell 3 (by omega), h.cell 4 (by omega), h.cell 5 (by omega), h.cell 6 (by omega), h.cell 7 (by omega)⟩, h.frozen 0, h.frozen 1, h.frozen 2, h.frozen 3, h.frozen 4, h.frozen 5, h.frozen 6, h.frozen 7⟩
theorem Row.eightS {w : World} {b : Nat} {q : St} (h : Row w b 111 q.l) :
    (w.cell? ⟨b, 0, none⟩ = some (.int .u32 (u q.a)) ∧ w.cell? ⟨b, 1, none⟩ = some (.int .u32 (u q.b)) ∧ w.cell? ⟨b, 2, none⟩ = some (.int .u32 (u q.c)) ∧ w.cell? ⟨b, 3, none⟩ = some (.int .u32 (u q.d)) ∧ w.cell? ⟨b, 4, none⟩ = some (.int .u32 (u q.e)) ∧ w.cell? ⟨b, 5, none⟩ = some (.int .u32 (u q.f)) ∧ w.cell? ⟨b, 6, none⟩ = some (.int .u32 (u q.g)) ∧ w.cell? ⟨b, 7, none⟩ = some (.int .u32 (u q.h)))
    ∧ (w.frozen? ⟨b, 0, none⟩ = false ∧ w.frozen? ⟨b, 1, none⟩ = false ∧ w.frozen? ⟨b, 2, none⟩ = false ∧ w.frozen? ⟨b, 3, none⟩ = false ∧ w.frozen? ⟨b, 4, none⟩ = false ∧ w.frozen? ⟨b, 5, none⟩ = false ∧ w.frozen? ⟨b, 6, none⟩ = false ∧ w.frozen? ⟨b, 7, none⟩ = false) :=
  h.eight rfl
theorem Row.put8 {w : World} {b : Nat} {l : List (BitVec 32)} (h : Row w b 111 l) (hl : l.length = 8) (q : St) : Row ((((((((w.setCell ⟨b, 0, none⟩ (.int .u32 (u q.a))).setCell ⟨b, 1, none⟩ (.int .u32 (u q.b))).setCell ⟨b, 2, none⟩ (.int .u32 (u q.c))).setCell ⟨b, 3, none⟩ (.int .u32 (u q.d))).setCell ⟨b, 4, none⟩ (.int .u32 (u q.e))).setCell ⟨b, 5, none⟩ (.int .u32 (u q.f))).setCell ⟨b, 6, none⟩ (.int .u32 (u q.g))).setCell ⟨b, 7, none⟩ (.int .u32 (u q.h))) b 111 q.l := by
  have k := ((((((((h.set 0 q.a).set 1 q.b).set 2 q.c).set 3 q.d).set 4 q.e).set 5 q.f).set 6 q.g).set 7 q.h)
  match l, hl, k with
  | [_, _, _, _, _, _, _, _], _, k => exact k
theorem below_put8 {B : Nat} {a w : World} (h : Below B a w) {b : Nat} (hb : B ≤ b) (q : St) : Below B a ((((((((w.setCell ⟨b, 0, none⟩ (.int .u32 (u q.a))).setCell ⟨b, 1, none⟩ (.int .u32 (u q.b))).setCell ⟨b, 2, none⟩ (.int .u32 (u q.c))).setCell ⟨b, 3, none⟩ (.int .u32 (u q.d))).setCell ⟨b, 4, none⟩ (.int .u32 (u q.e))).setCell ⟨b, 5, none⟩ (.int .u32 (u q.f))).setCell ⟨b, 6, none⟩ (.int .u32 (u q.g))).setCell ⟨b, 7, none⟩ (.int .u32 (u q.h))) :=
  (((((((h.setCell hb _).setCell hb _).setCell hb _).setCell hb _).setCell hb _).setCell hb _).setCell hb _).setCell hb _
theorem KR.alloc {w : World} (h : KR w) (o : Obj) : KR (w.alloc o) := h.below ((Below.refl _ _).alloc (Nat.le_refl _) o) h.pos
theorem KR.step {w w' : World} (h : KR w) (hb : Below w.heap.size w w') : KR w' := h.below hb h.pos

theorem first_at (q : St) (hq : Hid (q = st0)) (w : World) :
    Calls Tryd.prog 56 #[] w fun e w' => e = .returned (.agg #[.int .u32 (u q.a), .int .u32 (u q.b), .int .u32 (u q.c), .int .u32 (u q.d), .int .u32 (u q.e), .int .u32 (u q.f), .int .u32 (u q.g), .int .u32 (u q.h)]) ∧ Below w.heap.size w w' := by
  refine (firstState_any w).mono ?_
  rintro e w' ⟨rfl, hb⟩
  refine ⟨?_, hb⟩
  rw [hq.out]
  rfl
theorem mixAll_at (st q : St) (s : ByteArray) (hs : s.size ≤ 100000000) (w : World) (hK : KR w) (hq : Hid (q = run kc (mb s) (s.size / 64) st)) :
    Calls Tryd.prog 55 #[.agg #[.int .u32 (u st.a), .int .u32 (u st.b), .int .u32 (u st.c), .int .u32 (u st.d), .int .u32 (u st.e), .int .u32 (u st.f), .int .u32 (u st.g), .int .u32 (u st.h)], .string s] w
      fun e w' => e = .returned (.agg #[.int .u32 (u q.a), .int .u32 (u q.b), .int .u32 (u q.c), .int .u32 (u q.d), .int .u32 (u q.e), .int .u32 (u q.f), .int .u32 (u q.g), .int .u32 (u q.h)]) ∧ Below w.heap.size w w' := by
  refine (mixAll_any st s (by unfold maxLen; omega) w hK).mono ?_
  rintro e w' ⟨rfl, hb⟩
  refine ⟨?_, hb⟩
  rw [← hq.out]
  rfl
theorem padding_at (n : Nat) (hn : n ≤ 1000000) (p : ByteArray) (hp : Hid (p = ⟨(padL n).toArray⟩)) (w : World) :
    Calls Tryd.prog 57 #[.int .i64 n] w fun e w' => e = .returned (.string p) ∧ Below w.heap.size w w' := by
  rw [hp.out]; exact padding_any n hn w

theorem getD_app_r (a b : List UInt8) (j : Nat) (h : a.length ≤ j) : (a ++ b).getD j 0 = b.getD (j - a.length) 0 := by
  simp [List.getD_eq_getElem?_getD, List.getElem?_append_right h]
theorem getD_app_l (a b : List UInt8) (j : Nat) (h : j < a.length) : (a ++ b).getD j 0 = a.getD j 0 := by
  simp [List.getD_eq_getElem?_getD, List.getElem?_append_left h]
theorem mb_list {x : ByteArray} {l : List UInt8} (h : x.data.toList = l) : mb x = (fun j => l.getD j 0) ∧ x.size = l.length := by
  subst h; exact ⟨rfl, rfl⟩
theorem sha_join (l : List UInt8) (wn : Nat) (h : wn = l.length - l.length % 64) :
    run kc (fun j => (l.drop wn ++ padL l.length).getD j 0) ((l.drop wn ++ padL l.length).length / 64) (run kc (fun j => (l.take wn).getD j 0) ((l.take wn).length / 64) st0) = shaSt l := by
  have hf := full_mod l
  have e0 : full l = l.take wn ++ (l.drop wn ++ padL l.length) := by unfold full; rw [← List.append_assoc, List.take_append_drop]
  have el : (l.take wn).length = wn := by rw [List.length_take]; omega
  have hn : (full l).length / 64 = (l.take wn).length / 64 + (l.drop wn ++ padL l.length).length / 64 := by
    have := congrArg List.length e0
    rw [List.length_append] at this
    rw [this, el]; omega
  unfold shaSt
  rw [hn, run_add]
  congr 1
  · funext x
    unfold shaF
    rw [e0, getD_app_r (l.take wn) _ _ (by rw [el]; omega), el]
    rw [show 64 * (wn / 64) + x - wn = x by omega]
  · apply run_congr
    intro j hj
    unfold shaF
    rw [e0, getD_app_l _ _ _ (by rw [el] at hj ⊢; omega)]

set_option maxRecDepth 100000 in
set_option maxHeartbeats 400000 in
theorem print_any (s : ByteArray) (hs : s.size ≤ 1000000) (w : World) (hK : KR w) :
    Calls Tryd.prog 28 #[.string s] w fun e w' => e = .returned (.string ⟨(shaL s.data.toList).toArray⟩) ∧ Below w.heap.size w w' := by
  obtain ⟨wn, hwn0⟩ : ∃ wn : Nat, wn = s.size - s.size % 64 := ⟨_, rfl⟩
  have hwi : (s.size : Int) - (s.size : Int) % 64 = (wn : Int) := by omega
  have hwle : wn ≤ s.size := by omega
  have hwn := Lib.hid hwn0
  clear hwn0
  obtain ⟨q0, hq00⟩ : ∃ q : St, q = st0 := ⟨_, rfl⟩
  have hq0 := Lib.hid hq00
  clear hq00
  obtain ⟨s1, hs10⟩ : ∃ x : ByteArray, s.extract 0 wn = x := ⟨_, rfl⟩
  have z1 : s1.size ≤ 100000000 := by rw [← hs10]; simp [ByteArray.size_extract]; omega
  obtain ⟨q1, hq10⟩ : ∃ q : St, q = run kc (mb s1) (s1.size / 64) q0 := ⟨_, rfl⟩
  have hq1 := Lib.hid hq10
  clear hq10
  have kpos := hK.pos
  go_enter Tryd.func28, Tryd.ntmps28
  go_wp2

  go_upto_region 2 with fail
  go_cut [4] (fun s4 wx => ∃ g : Nat, s4 = .pointer (some ⟨g, 0, none⟩) ∧ Row wx g 111 q1.l ∧ w.heap.size ≤ g ∧ Below w.heap.size w wx ∧ KR wx)
  case first =>
    go_region_with (first | (go_at_call 56; refine (first_at q0 hq0 _).mono ?_; rintro e w1 ⟨rfl, hb1⟩; have hK1 := KR.step (by first | exact hK | exact KR.alloc hK _) hb1; (try have r1 : Row w1 w.heap.size 111 (List.replicate 8 0) := Row.below (w := w.drew.alloc _) (heap_alloc_new _ _) hb1 (by simp))) | (go_at_call 55; refine (mixAll_at q0 q1 s1 z1 _ ?_ hq1).mono ?_; (first | exact hK1 | exact hK1.alloc _); rintro e w2 ⟨rfl, hb2⟩; (first | (have r2 := r1.below hb2 r1.lt; obtain ⟨⟨d0, d1, d2, d3, d4, d5, d6, d7⟩, e0, e1, e2, e3, e4, e5, e6, e7⟩ := r2.eight (by simp)) | (have r2 : Row w2 w1.heap.size 111 (List.replicate 8 0) := Row.below (w := w1.alloc _) (heap_alloc_new _ _) hb2 (by simp); obtain ⟨⟨d0, d1, d2, d3, d4, d5, d6, d7⟩, e0, e1, e2, e3, e4, e5, e6, e7⟩ := r2.eight (by simp)) | skip)))
    · go_wp2_with fail
      go_meet
      have hB : Below w.heap.size w w2 := ((Below.refl _ _).drew.trans hb1).trans (hb2.mono (show w.heap.size ≤ w1.heap.size from hb1.size))
      have hBa := hB.alloc (Below.size hB) (.cells (wvs q1.l) 111)
      exact ⟨w2.heap.size, rfl, heap_alloc_new _ _, hB.size, hBa, hK.step hBa⟩
    · go_wp2_with fail
      go_meet
      have h1 : w.heap.size ≤ w1.heap.size := hb1.size
      have hB1 : Below w.heap.size w w1 := (Below.refl _ _).drew.trans hb1
      have hB : Below w.heap.size w w2 := (hB1.alloc h1 _).trans (hb2.mono (by simp; omega))
      have hBa := below_put8 hB h1 q1
      exact ⟨w1.heap.size, rfl, r2.put8 (by simp) q1, h1, hBa, hK.step hBa⟩
    · go_wp2_with fail
      go_meet
      have h1 : w.heap.size + 1 ≤ w1.heap.size := by have := hb1.size; simpa using this
      have hB : Below w.heap.size w w2 := (((Below.refl _ _).alloc (Nat.le_refl _) _).drew.trans (hb1.mono (by simp))).trans (hb2.mono (by omega))
      have hBa := below_put8 hB (Nat.le_refl _) q1
      exact ⟨w.heap.size, rfl, r2.put8 (by simp) q1, Nat.le_refl _, hBa, hK.step hBa⟩
  case rest =>
    obtain ⟨g, rfl, r, hg, hB, hKc⟩ := hcut
    clear hK z1
    obtain ⟨s2, hs20⟩ : ∃ x : ByteArray, s.extract wn s.size = x := ⟨_, rfl⟩
    have sz2 : s2.size ≤ 1000000 := by rw [← hs20]; simp [ByteArray.size_extract]; omega
    obtain ⟨p, hp0⟩ : ∃ x : ByteArray, x = ⟨(padL s.size).toArray⟩ := ⟨_, rfl⟩
    have hp := Lib.hid hp0
    clear hp0
    have szp : p.size ≤ 100 := by rw [hp.out]; show (padL s.size).toArray.size ≤ 100; rw [List.size_toArray, padL_length]; unfold zerosFor; omega
    obtain ⟨s3, hs30⟩ : ∃ x : ByteArray, x = s2 ++ p := ⟨_, rfl⟩
    have sz3 : s3.size ≤ 100000000 := by rw [hs30, ByteArray.size_append]; omega
    have hs3 := Lib.hid hs30
    clear hs30
    have a1 : ∀ w, (Op.stringOp .add s2 p).run Tryd.prog w = .ok (.string s3) w := fun w => by rw [hs3.out]; exact run_string_add_sum w _ _ (by omega)
    clear sz2 szp
    obtain ⟨q2, hq20⟩ : ∃ q : St, q = run kc (mb s3) (s3.size / 64) q1 := ⟨_, rfl⟩
    have hq2 := Lib.hid hq20
    clear hq20
    obtain ⟨⟨d0, d1, d2, d3, d4, d5, d6, d7⟩, e0, e1, e2, e3, e4, e5, e6, e7⟩ := r.eightS
    go_upto_region 3 with fail
    go_region_with (first | (go_at_call 57; refine (padding_at s.size hs p hp _).mono ?_; rintro e w1 ⟨rfl, hb1⟩; have hK1 := KR.step (show KR wc.drew from hKc) hb1; have r1 := Row.below (w := wc.drew) r hb1 r.lt; obtain ⟨⟨c0, c1, c2, c3, c4, c5, c6, c7⟩, f0, f1, f2, f3, f4, f5, f6, f7⟩ := r1.eightS) | (go_at_call 55; refine (mixAll_at q1 q2 s3 sz3 _ hK1 hq2).mono ?_; rintro e w2 ⟨rfl, hb2⟩; have r2 := r1.below hb2 r1.lt; obtain ⟨⟨i0, i1, i2, i3, i4, i5, i6, i7⟩, j0, j1, j2, j3, j4, j5, j6, j7⟩ := r2.eightS))
    all_goals
      have r3 := r2.put8 rfl q2
      have hB3 := below_put8 (((hB.drew).trans (hb1.mono (show w.heap.size ≤ wc.heap.size from hB.size))).trans (hb2.mono (Nat.le_trans hB.size hb1.size))) hg q2
      clear d0 d1 d2 d3 d4 d5 d6 d7 e0 e1 e2 e3 e4 e5 e6 e7 c0 c1 c2 c3 c4 c5 c6 c7 f0 f1 f2 f3 f4 f5 f6 f7 i0 i1 i2 i3 i4 i5 i6 i7 j0 j1 j2 j3 j4 j5 j6 j7 a1
      generalize ((((((((w2.setCell ⟨g, 0, none⟩ (.int .u32 (u q2.a))).setCell ⟨g, 1, none⟩ (.int .u32 (u q2.b))).setCell ⟨g, 2, none⟩ (.int .u32 (u q2.c))).setCell ⟨g, 3, none⟩ (.int .u32 (u q2.d))).setCell ⟨g, 4, none⟩ (.int .u32 (u q2.e))).setCell ⟨g, 5, none⟩ (.int .u32 (u q2.f))).setCell ⟨g, 6, none⟩ (.int .u32 (u q2.g))).setCell ⟨g, 7, none⟩ (.int .u32 (u q2.h))) = wz at r3 hB3 ⊢
      obtain ⟨⟨d0, d1, d2, d3, d4, d5, d6, d7⟩, e0, e1, e2, e3, e4, e5, e6, e7⟩ := r3.eightS
      go_wp2_with (go_at_call 58; refine (stateBytes_any q2 _).mono ?_; rintro e w3 ⟨rfl, hb3⟩)
      go_ret
      refine ⟨?_, hB3.trans (hb3.mono hB3.size)⟩
      have e : q2 = shaSt s.data.toList := by
        have x1 := mb_list (x := s1) (l := s.data.toList.take wn) (by rw [← hs10, Lib.extract_data]; simp)
        have x3 := mb_list (x := s3) (l := s.data.toList.drop wn ++ padL s.data.toList.length) (by
          rw [hs3.out, hp.out, ← hs20, ByteArray.data_append, Array.toList_append, Lib.extract_data, List.take_of_length_le (by rw [List.length_drop]; exact Nat.le_refl _)]
          rfl)
        rw [hq2.out, hq1.out, hq0.out, x1.1, x1.2, x3.1, x3.2]
        exact sha_join s.data.toList wn hwn.out
      rw [e]
      rfl
end Go.Proofs.YtfjlkphpeneahaaDoor.S1
