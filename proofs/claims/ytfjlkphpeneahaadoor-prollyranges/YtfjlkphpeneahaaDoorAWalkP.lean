/- Walks of Print. -/
import Derived.Test.YtfjlkphpeneahaaDoorRows
import Derived.Test.YtfjlkphpeneahaaDoorACells
import Derived.BigRegion
import Derived.StillTailTactics
import Derived.BigQuiet
import Derived.Deep.QuietTactic
namespace Go.Proofs.YtfjlkphpeneahaaDoor.S1
open Go.RowKit

theorem ret_int {k : IntKind} {a b : Int} (h : a = b) : Ending.returned (.int k a) = .returned (.int k b) := by rw [h]
theorem u_shl' (a : BitVec 32) (n : Nat) : u a * 2 ^ n % 4294967296 = u (a <<< n) := by
  rw [← u_shl, IntKind.wrap_u32']
set_option maxHeartbeats 400000 in
theorem rot_gen (v : BitVec 32) (m : Int) (r : Nat) (hr : r < 32) (hb : bits .and .u64 (IntKind.u64.wrap m) 31 = (r : Int)) (w : World) :
    Calls Tryd.prog 97 #[.int .u32 (u v), .int .i64 m] w fun e w' => e = .returned (.int .u32 (u (rotr v (32 - r)))) ∧ w = w' := by
  go_enter Tryd.func97, Tryd.ntmps97
  go_wp2
  go_ret
  refine ⟨ret_int ?_, rfl⟩
  rw [u_shl', u_shr, u_or]
  unfold rotr
  rw [BitVec.or_comm, show 32 - (32 - r) = r by omega]

theorem rot_at (v : BitVec 32) (m : Int) (n : Nat) (r : Nat) (hn : n = 32 - r) (hr : r < 32) (hb : bits .and .u64 (IntKind.u64.wrap m) 31 = (r : Int)) (w : World) :
    Calls Tryd.prog 97 #[.int .u32 (u v), .int .i64 m] w fun e w' => e = .returned (.int .u32 (u (rotr v n))) ∧ w = w' := by
  subst hn; exact rot_gen v m r hr hb w
theorem rot2 (v : BitVec 32) (w : World) : Calls Tryd.prog 97 #[.int .u32 (u v), .int .i64 (-2)] w fun e w' => e = .returned (.int .u32 (u (rotr v 2))) ∧ w = w' := rot_at v (-2) 2 30 rfl (by decide) (by decide) w
theorem rot6 (v : BitVec 32) (w : World) : Calls Tryd.prog 97 #[.int .u32 (u v), .int .i64 (-6)] w fun e w' => e = .returned (.int .u32 (u (rotr v 6))) ∧ w = w' := rot_at v (-6) 6 26 rfl (by decide) (by decide) w
theorem rot7 (v : BitVec 32) (w : World) : Calls Tryd.prog 97 #[.int .u32 (u v), .int .i64 (-7)] w fun e w' => e = .returned (.int .u32 (u (rotr v 7))) ∧ w = w' := rot_at v (-7) 7 25 rfl (by decide) (by decide) w
theorem rot11 (v : BitVec 32) (w : World) : Calls Tryd.prog 97 #[.int .u32 (u v), .int .i64 (-11)] w fun e w' => e = .returned (.int .u32 (u (rotr v 11))) ∧ w = w' := rot_at v (-11) 11 21 rfl (by decide) (by decide) w
theorem rot13 (v : BitVec 32) (w : World) : Calls Tryd.prog 97 #[.int .u32 (u v), .int .i64 (-13)] w fun e w' => e = .returned (.int .u32 (u (rotr v 13))) ∧ w = w' := rot_at v (-13) 13 19 rfl (by decide) (by decide) w
theorem rot17 (v : BitVec 32) (w : World) : Calls Tryd.prog 97 #[.int .u32 (u v), .int .i64 (-17)] w fun e w' => e = .returned (.int .u32 (u (rotr v 17))) ∧ w = w' := rot_at v (-17) 17 15 rfl (by decide) (by decide) w
theorem rot18 (v : BitVec 32) (w : World) : Calls Tryd.prog 97 #[.int .u32 (u v), .int .i64 (-18)] w fun e w' => e = .returned (.int .u32 (u (rotr v 18))) ∧ w = w' := rot_at v (-18) 18 14 rfl (by decide) (by decide) w
theorem rot19 (v : BitVec 32) (w : World) : Calls Tryd.prog 97 #[.int .u32 (u v), .int .i64 (-19)] w fun e w' => e = .returned (.int .u32 (u (rotr v 19))) ∧ w = w' := rot_at v (-19) 19 13 rfl (by decide) (by decide) w
theorem rot22 (v : BitVec 32) (w : World) : Calls Tryd.prog 97 #[.int .u32 (u v), .int .i64 (-22)] w fun e w' => e = .returned (.int .u32 (u (rotr v 22))) ∧ w = w' := rot_at v (-22) 22 10 rfl (by decide) (by decide) w
theorem rot25 (v : BitVec 32) (w : World) : Calls Tryd.prog 97 #[.int .u32 (u v), .int .i64 (-25)] w fun e w' => e = .returned (.int .u32 (u (rotr v 25))) ∧ w = w' := rot_at v (-25) 25 7 rfl (by decide) (by decide) w

theorem u_shr3 (a : BitVec 32) : u a / (8 : Int) = u (a >>> 3) := u_shr a 3
theorem u_shr10 (a : BitVec 32) : u a / (1024 : Int) = u (a >>> 10) := u_shr a 10
theorem u_add' (a b : BitVec 32) : (u a + u b) % 4294967296 = u (a + b) := by rw [← u_add, IntKind.wrap_u32']
theorem u_wb (b : UInt8) : IntKind.u32.wrap (b.toNat : Int) = u (wb b) := by
  unfold u wb; rw [IntKind.wrap_u32', BitVec.toNat_ofNat]; have := b.toNat_lt; omega
theorem u_shl24 (a : BitVec 32) : IntKind.u32.wrap (u a * (16777216 : Int)) = u (a <<< 24) := u_shl a 24
theorem u_shl16 (a : BitVec 32) : IntKind.u32.wrap (u a * (65536 : Int)) = u (a <<< 16) := u_shl a 16
theorem u_shl8 (a : BitVec 32) : IntKind.u32.wrap (u a * (256 : Int)) = u (a <<< 8) := u_shl a 8

set_option maxRecDepth 100000 in
set_option maxHeartbeats 1000000 in
theorem spread_any (s : ByteArray) (hs : s.size = 64) (w : World) :
    Calls Tryd.prog 96 #[.string s] w fun e w' => e = .returned (.agg (wvs ((List.range 64).map (W (mb s))))) ∧ Below w.heap.size w w' := by
  go_enter Tryd.func96, Tryd.ntmps96
  go_wp2
  go_loopw [11] (fun i wr => ∃ k : Nat, ∃ l : List (BitVec 32), k ≤ 16 ∧ i = .int .i64 k ∧ l.length = 64 ∧ (∀ j, j < k → l.getD j 0 = W (mb s) j) ∧ Row wr (w.heap.size + 1) 162 l ∧ Row wr w.heap.size 162 (List.replicate 64 0) ∧ Below w.heap.size w wr) (fun i _ => 16 - (intOf i).toNat)
  case atStart =>
    refine ⟨0, List.replicate 64 0, by omega, rfl, by simp, fun j hj => absurd hj (by omega), ?_, ?_, ?_⟩
    · exact heap_alloc2_new _ _ _
    · exact heap_alloc2_old _ _ _
    · exact ((Below.refl _ _).alloc (Nat.le_refl _) _).alloc (by simp) _
  case round =>
    obtain ⟨k, l, hk, rfl, hl0, hp0, hb1, hb0, hB⟩ := hrel
    have hl := Lib.hid hl0
    have hp := Lib.hid hp0
    clear hl0 hp0
    by_cases hlt : k < 16
    · have hc : wr.cell? ⟨w.heap.size + 1, k, none⟩ = some (.int .u32 (u (l.getD k 0))) := hb1.cell k (by have := hl.out; omega)
      have hf : wr.frozen? ⟨w.heap.size + 1, k, none⟩ = false := hb1.frozen k
      have hq4 : (s.extract (4 * k) (4 * k + 4)).size = 4 := by simp [ByteArray.size_extract]; omega
      go_wp2
      generalize hqe : s.extract (4 * k) (4 * k + 4) = q at hq4 ⊢
      have q0 : (0 : Int) < (q.size : Int) := by omega
      have q1 : (1 : Int) < (q.size : Int) := by omega
      have q2 : (2 : Int) < (q.size : Int) := by omega
      have q3 : (3 : Int) < (q.size : Int) := by omega
      have n0 : 0 < q.size := by omega
      have n1 : 1 < q.size := by omega
      have n2 : 2 < q.size := by omega
      have n3 : 3 < q.size := by omega
      have HQ := Lib.hid hq4
      have HE := Lib.hid hqe
      clear hq4 hqe
      have hk64 : (k : Int) < 64 := by omega
      have hk0 : (0 : Int) ≤ (k : Int) := by omega
      have f1 := u_wb
      have f2 := u_shl24
      have f3 := u_shl16
      have f4 := u_shl8
      have f5 := u_or
      go_still_tail 20, (by kernel_rfl)
      change wpList _ _ _ _ _ wr.drew
      have hc' : wr.drew.cell? ⟨w.heap.size + 1, k, none⟩ = some (.int .u32 (u (l.getD k 0))) := hc
      have hf' : wr.drew.frozen? ⟨w.heap.size + 1, k, none⟩ = false := hf
      have hb1' : Row wr.drew (w.heap.size + 1) 162 l := hb1
      have hb0' : Row wr.drew w.heap.size 162 (List.replicate 64 0) := hb0
      have hB' : Below w.heap.size w wr.drew := hB.drew
      clear f1 f2 f3 f4 f5 hc hf
      generalize wr.drew = wq at hc' hf' hb1' hb0' hB' ⊢
      go_wp2
      go_roundw
      case rel =>
        have e := HE.out
        subst e
        have hx : wb ((s.extract (4 * k) (4 * k + 4))[0]) <<< 24 ||| wb ((s.extract (4 * k) (4 * k + 4))[1]) <<< 16 ||| wb ((s.extract (4 * k) (4 * k + 4))[2]) <<< 8 ||| wb ((s.extract (4 * k) (4 * k + 4))[3]) = W (mb s) k := by
          rw [W_lo _ _ hlt]
          unfold word
          simp only [extract_at, Nat.add_zero]
        have st := words_step (f := W (mb s)) hl.out (show k < 64 by omega) hp.out hx
        exact ⟨k + 1, _, by omega, by go_num, st.1, st.2, hb1'.set k _, hb0'.other (by simp) _, hB'.setCell (by simp) _⟩
      case measure => simp [intOf]; omega
    · go_wp2
      go_loopw [6] (fun i wr => ∃ k : Nat, ∃ l : List (BitVec 32), 16 ≤ k ∧ k ≤ 64 ∧ i = .int .i64 k ∧ l.length = 64 ∧ (∀ j, j < k → l.getD j 0 = W (mb s) j) ∧ Row wr (w.heap.size + 1) 162 l ∧ Row wr w.heap.size 162 (List.replicate 64 0) ∧ Below w.heap.size w wr) (fun i _ => 64 - (intOf i).toNat)
      case atStart => exact ⟨16, l, by omega, by omega, rfl, hl.out, fun j hj => hp.out j (by omega), hb1, hb0, hB⟩
      case round =>
        clear hl hp hb1 hb0 hB
        obtain ⟨k, l, hk16, hk, rfl, hl0, hp0, hb1, hb0, hB⟩ := hrel
        have hl := Lib.hid hl0
        have hp := Lib.hid hp0
        clear hl0 hp0
        by_cases hlt : k < 64
        · have hl64 := hl.out
          have c15 : wr.cell? ⟨w.heap.size + 1, k - 15, none⟩ = some (.int .u32 (u (l.getD (k - 15) 0))) := hb1.cell _ (by omega)
          have c2 : wr.cell? ⟨w.heap.size + 1, k - 2, none⟩ = some (.int .u32 (u (l.getD (k - 2) 0))) := hb1.cell _ (by omega)
          have c16 : wr.cell? ⟨w.heap.size + 1, k - 16, none⟩ = some (.int .u32 (u (l.getD (k - 16) 0))) := hb1.cell _ (by omega)
          have c7 : wr.cell? ⟨w.heap.size + 1, k - 7, none⟩ = some (.int .u32 (u (l.getD (k - 7) 0))) := hb1.cell _ (by omega)
          have hc : wr.cell? ⟨w.heap.size + 1, k, none⟩ = some (.int .u32 (u (l.getD k 0))) := hb1.cell k (by omega)
          have hf : wr.frozen? ⟨w.heap.size + 1, k, none⟩ = false := hb1.frozen k
          rw [hp.out _ (by omega)] at c15 c2 c16 c7
          clear hl64
          generalize hx15 : W (mb s) (k - 15) = x15 at c15
          generalize hx2 : W (mb s) (k - 2) = x2 at c2
          generalize hx16 : W (mb s) (k - 16) = x16 at c16
          generalize hx7 : W (mb s) (k - 7) = x7 at c7
          have HX := Lib.hid (And.intro hx15 (And.intro hx2 (And.intro hx16 hx7)))
          clear hx15 hx2 hx16 hx7
          have i15 : (0 : Int) ≤ (k : Int) - 15 := by omega
          have i2 : (0 : Int) ≤ (k : Int) - 2 := by omega
          have i16 : (0 : Int) ≤ (k : Int) - 16 := by omega
          have i7 : (0 : Int) ≤ (k : Int) - 7 := by omega
          have j15 : (k : Int) - 15 < 64 := by omega
          have j2 : (k : Int) - 2 < 64 := by omega
          have j16 : (k : Int) - 16 < 64 := by omega
          have j7 : (k : Int) - 7 < 64 := by omega
          have t15 : ((k : Int) - 15).toNat = k - 15 := by omega
          have t2 : ((k : Int) - 2).toNat = k - 2 := by omega
          have t16 : ((k : Int) - 16).toNat = k - 16 := by omega
          have t7 : ((k : Int) - 7).toNat = k - 7 := by omega
          go_wp2
          go_quiet (fail)
          have f1 := u_xor
          have f2 := u_shr3
          have f3 := u_shr10
          go_wp2_with (first | (go_at_call 97; (first | (with_reducible refine (rot7 _ _).mono ?_) | (with_reducible refine (rot18 _ _).mono ?_) | (with_reducible refine (rot17 _ _).mono ?_) | (with_reducible refine (rot19 _ _).mono ?_)); rintro e w' ⟨rfl, rfl⟩))
          have hc' : (wr.drewN nq).cell? ⟨w.heap.size + 1, k, none⟩ = some (.int .u32 (u (l.getD k 0))) := hc
          have hf' : (wr.drewN nq).frozen? ⟨w.heap.size + 1, k, none⟩ = false := hf
          have c16' : (wr.drewN nq).cell? ⟨w.heap.size + 1, k - 16, none⟩ = some (.int .u32 (u x16)) := c16
          have c7' : (wr.drewN nq).cell? ⟨w.heap.size + 1, k - 7, none⟩ = some (.int .u32 (u x7)) := c7
          have hb1' : Row (wr.drewN nq) (w.heap.size + 1) 162 l := hb1
          have hb0' : Row (wr.drewN nq) w.heap.size 162 (List.replicate 64 0) := hb0
          have hB' : Below w.heap.size w (wr.drewN nq) := ⟨hB.os, hB.tape, hB.output, hB.size, hB.block⟩
          clear f1 f2 f3 hc hf c16 c7 c15 c2 hb1 hb0 hB
          generalize wr.drewN nq = wq at hc' hf' c16' c7' hb1' hb0' hB' ⊢
          have f4 := u_add
          have hk64 : (k : Int) < 64 := by omega
          have hk0 : (0 : Int) ≤ (k : Int) := by omega
          have z16 : (16 : Int) ≤ (k : Int) := by omega
          have z7 : (7 : Int) ≤ (k : Int) := by omega
          have y16 : (k : Int) < 64 + 16 := by omega
          have y7 : (k : Int) < 64 + 7 := by omega
          have y16' : (k : Int) < 80 := by omega
          have y7' : (k : Int) < 71 := by omega
          have w16 : IntKind.i64.wrap ((k : Int) - 16) = (k : Int) - 16 := IntWalk.i64_in _ (by omega)
          have w7 : IntKind.i64.wrap ((k : Int) - 7) = (k : Int) - 7 := IntWalk.i64_in _ (by omega)
          go_still_tail 15, (by kernel_rfl)
          clear w16 w7
          have HX' := HX.out
          obtain ⟨e15, e2, e16, e7⟩ := HX'
          have hx : x16 + (rotr x15 7 ^^^ rotr x15 18 ^^^ x15 >>> 3) + x7 + (rotr x2 17 ^^^ rotr x2 19 ^^^ x2 >>> 10) = W (mb s) k := by
            rw [W_hi _ _ hk16, e15, e2, e16, e7]; rfl
          have st := words_step (f := W (mb s)) hl.out (show k < 64 by omega) hp.out hx
          have ST := Lib.hid st
          clear e15 e2 e16 e7 hx st f4 HX
          change wpList _ _ _ _ _ wq.drew
          have hc2 : wq.drew.cell? ⟨w.heap.size + 1, k, none⟩ = some (.int .u32 (u (l.getD k 0))) := hc'
          have hf2 : wq.drew.frozen? ⟨w.heap.size + 1, k, none⟩ = false := hf'
          have hb1'' : Row wq.drew (w.heap.size + 1) 162 l := hb1'
          have hb0'' : Row wq.drew w.heap.size 162 (List.replicate 64 0) := hb0'
          have hB'' : Below w.heap.size w wq.drew := hB'.drew
          clear hc' hf' c16' c7' hb1' hb0' hB'
          generalize wq.drew = wz at hc2 hf2 hb1'' hb0'' hB'' ⊢
          go_wp2
          go_roundw
          case rel => exact ⟨k + 1, _, by omega, by omega, by go_num, ST.out.1, ST.out.2, hb1''.set k _, hb0''.other (by simp) _, hB''.setCell (by simp) _⟩
          case measure => simp [intOf]; omega
        · have HI : Hid ((Tryd.prog.info? 162).map (·.size) = some (wvs l).size) := Lib.hid (by rw [wvs_size, hl.out]; kernel_rfl)
          have HO : Hid ((wvs (List.replicate 64 0)).size = (wvs l).size) := Lib.hid (by rw [wvs_size, wvs_size, hl.out]; rfl)
          go_wp2_with (first | (refine wpList_load_row rfl 162 _ rfl (w.heap.size + 1) rfl 162 (wvs l) (0, 0) _ hb1.heap Tryd.underlying162 rfl HI.out ?_) | (refine wpList_store_row rfl 162 _ _ rfl w.heap.size (wvs l) rfl rfl 162 _ hb0.heap HI.out HO.out (wvs_one l) ?_))
          refine bodyPost_ret (v := .agg (wvs l)) (results_cell_row rfl _ _ w.heap.size 162 (wvs l) (0, 0) _ rfl (hb0.put l) Tryd.underlying162 rfl HI.out) rfl ⟨?_, below_setRow hB (Nat.le_refl _) _⟩
          have hk64 : k = 64 := by omega
          subst hk64
          rw [list_of_getD l 64 (W (mb s)) hl.out hp.out]
end Go.Proofs.YtfjlkphpeneahaaDoor.S1
