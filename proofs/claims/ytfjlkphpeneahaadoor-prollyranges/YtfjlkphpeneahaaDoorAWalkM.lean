/- Walks of mix and mixAll. -/
import Derived.Test.YtfjlkphpeneahaaDoorAWalkP
namespace Go.Proofs.YtfjlkphpeneahaaDoor.S1
open Go.RowKit

/-- The numbers of the rounds. -/
def kl : List (BitVec 32) := [1116352408, 1899447441, 3049323471, 3921009573, 961987163, 1508970993, 2453635748, 2870763221, 3624381080, 310598401, 607225278, 1426881987, 1925078388, 2162078206, 2614888103, 3248222580, 3835390401, 4022224774, 264347078, 604807628, 770255983, 1249150122, 1555081692, 1996064986, 2554220882, 2821834349, 2952996808, 3210313671, 3336571891, 3584528711, 113926993, 338241895, 666307205, 773529912, 1294757372, 1396182291, 1695183700, 1986661051, 2177026350, 2456956037, 2730485921, 2820302411, 3259730800, 3345764771, 3516065817, 3600352804, 4094571909, 275423344, 430227734, 506948616, 659060556, 883997877, 958139571, 1322822218, 1537002063, 1747873779, 1955562222, 2024104815, 2227730452, 2361852424, 2428436474, 2756734187, 3204031479, 3329325298]
def kc (j : Nat) : BitVec 32 := kl.getD j 0
/-- The table lies in its variable. -/
def KR (w : World) : Prop := ∀ j, j < 64 → w.cell? ⟨0, j, none⟩ = some (.int .u32 (u (kc j)))
theorem KR.below {B : Nat} {w w' : World} (h : KR w) (hb : Below B w w') (hB : 0 < B) : KR w' := fun j hj => (hb.cell (p := ⟨0, j, none⟩) hB).trans (h j hj)
theorem KR.at {w : World} (h : KR w) (j : Nat) (hj : j < 64) : w.cell? ⟨0, j, none⟩ = some (.int .u32 (u (kc j))) := h j hj
theorem KR.pos {w : World} (h : KR w) : 0 < w.heap.size := block_lt_of_cell (h 0 (by omega))

theorem idx54 (l : List (BitVec 32)) (k : Nat) (hk : k < 64) (hl : l.length = 64) (w : World) :
    (Instr.index 162 (.agg (wvs l)) (.int .i64 k)).run Tryd.prog w = .ok (.int .u32 (u (l.getD k 0))) w := by
  simp [Instr.index, run_underlying Tryd.underlying162, asIntOf, go_sem, hk, wvs_get l k (by omega)]

theorem u_notw (a : BitVec 32) : bits .xor .u32 (if IntKind.u32.signed = true then -1 else IntKind.u32.max) (u a) = u (~~~a) := by
  have h : (if IntKind.u32.signed = true then (-1 : Int) else IntKind.u32.max) = u (BitVec.allOnes 32) := by decide
  rw [h, u_xor, BitVec.allOnes_xor]
theorem size35 : (Tryd.prog.info? 111).map (·.size) = some 8 := by kernel_rfl
theorem info35 (q : St) : (Tryd.prog.info? 111).map (·.size) = some (wvs q.l).size := by rw [wvs_size]; kernel_rfl
theorem agg8 (q : St) : (wvs q.l) = #[.int .u32 (u q.a), .int .u32 (u q.b), .int .u32 (u q.c), .int .u32 (u q.d), .int .u32 (u q.e), .int .u32 (u q.f), .int .u32 (u q.g), .int .u32 (u q.h)] := rfl

set_option maxRecDepth 100000 in
set_option maxHeartbeats 1000000 in
theorem mix_any (a b c d e f g h : BitVec 32) (s : ByteArray) (hs : s.size = 64) (w : World) (hK : KR w) :
    Calls Tryd.prog 86 #[.agg #[.int .u32 (u a), .int .u32 (u b), .int .u32 (u c), .int .u32 (u d), .int .u32 (u e), .int .u32 (u f), .int .u32 (u g), .int .u32 (u h)], .string s] w
      fun en w' => en = .returned (.agg (wvs (comp kc (mb s) ⟨a, b, c, d, e, f, g, h⟩).l)) ∧ Below w.heap.size w w' := by
  go_enter Tryd.func86, Tryd.ntmps86
  go_wp2_with fail
  refine (spread_any s hs _).mono ?_
  rintro e w1 ⟨rfl, hb⟩
  have HI : Hid ((Tryd.prog.info? 162).map (·.size) = some (wvs ((List.range 64).map (W (mb s)))).size) := Lib.hid (by rw [wvs_size]; kernel_rfl)
  have HO : Hid ((wvs (List.replicate 64 0)).size = (wvs ((List.range 64).map (W (mb s)))).size) := Lib.hid (by rw [wvs_size, wvs_size]; simp)
  have hl : Hid (((List.range 64).map (W (mb s))).length = 64) := Lib.hid (by simp)
  have hlg : Hid (∀ k, k < 64 → ((List.range 64).map (W (mb s))).getD k 0 = W (mb s) k) := Lib.hid (fun k hk => by simp [List.getD_eq_getElem?_getD, hk])
  generalize (List.range 64).map (W (mb s)) = l at HI HO hl hlg ⊢
  go_wp2_with (refine wpList_store_row rfl 162 _ _ rfl w1.heap.size (wvs l) rfl rfl 162 (wvs (List.replicate 64 0)) (heap_alloc_new _ _) HI.out HO.out (wvs_one l) ?_)
  have hz : w.heap.size + 2 ≤ w1.heap.size := by have := hb.size; simpa using this
  have hb' := hb.mono (B' := w.heap.size + 2) (by simp)
  have r0 : Row w1 w.heap.size 111 [a, b, c, d, e, f, g, h] := Row.below (heap_alloc2_old _ _ _) hb' (by omega)
  have r1 : Row w1 (w.heap.size + 1) 111 (List.replicate 8 0) := Row.below (heap_alloc2_new _ _ _) hb' (by omega)
  have hB : Below w.heap.size w w1 := ((((Below.refl _ _).alloc (Nat.le_refl _) _).alloc (by simp) _).trans (hb.mono (by simp; omega)))
  have rr0 := (r0.alloc (.cells (wvs (List.replicate 64 0)) 162)).keep (g := w1.heap.size) (by omega) (wvs l)
  have rr1 := (r1.alloc (.cells (wvs (List.replicate 64 0)) 162)).keep (g := w1.heap.size) (by omega) (wvs l)
  have rr2 : Row ((w1.alloc (.cells (wvs (List.replicate 64 0)) 162)).setRow w1.heap.size (wvs l)) w1.heap.size 162 l := Row.put (heap_alloc_new _ _) l
  have hBB : Below w.heap.size w ((w1.alloc (.cells (wvs (List.replicate 64 0)) 162)).setRow w1.heap.size (wvs l)) := below_setRow (hB.alloc (by omega) _) (by omega) _
  have hKK := hK.below hBB hK.pos
  change Code.wp _ _ _ _ ((w1.alloc (.cells (wvs (List.replicate 64 0)) 162)).setRow w1.heap.size (wvs l))
  generalize (w1.alloc (.cells (wvs (List.replicate 64 0)) 162)).setRow w1.heap.size (wvs l) = wz at rr0 rr1 rr2 hBB hKK ⊢
  generalize w1.heap.size = B2 at rr2 hz ⊢
  clear r0 r1 hB hb hb' hK
  have c0 := rr0.cell 0 (by simp)
  have c1 := rr0.cell 1 (by simp)
  have c2 := rr0.cell 2 (by simp)
  have c3 := rr0.cell 3 (by simp)
  have c4 := rr0.cell 4 (by simp)
  have c5 := rr0.cell 5 (by simp)
  have c6 := rr0.cell 6 (by simp)
  have c7 := rr0.cell 7 (by simp)
  simp only [List.getD_cons_zero, List.getD_cons_succ] at c0 c1 c2 c3 c4 c5 c6 c7
  go_quiet (fail)
  go_wp2
  go_quiet (fail)
  go_wp2_with (refine wpList_load_row rfl 162 _ rfl B2 rfl 162 (wvs l) (0, 0) _ rr2.heap Tryd.underlying162 rfl HI.out ?_)
  generalize hst : (⟨a, b, c, d, e, f, g, h⟩ : St) = st
  have HST := Lib.hid hst
  clear hst
  go_loop [6, 7, 8, 9, 10, 11, 12, 13, 41] (fun a1 b1 c1 d1 e1 f1 g1 h1 i => ∃ k : Nat, k ≤ 64 ∧ i = .int .i64 k ∧ ∃ q : St, Hid (q = rnds kc (mb s) k st) ∧ a1 = .int .u32 (u q.a) ∧ b1 = .int .u32 (u q.b) ∧ c1 = .int .u32 (u q.c) ∧ d1 = .int .u32 (u q.d) ∧ e1 = .int .u32 (u q.e) ∧ f1 = .int .u32 (u q.f) ∧ g1 = .int .u32 (u q.g) ∧ h1 = .int .u32 (u q.h)) (fun _ _ _ _ _ _ _ _ i => 64 - (intOf i).toNat)
  case atStart =>
    refine ⟨0, by omega, rfl, ⟨a, b, c, d, e, f, g, h⟩, Lib.hid HST.out, rfl, rfl, rfl, rfl, rfl, rfl, rfl, rfl⟩
  case round =>
    obtain ⟨k, hk, rfl, ⟨qa, qb, qc, qd, qe, qf, qg, qh⟩, hq, rfl, rfl, rfl, rfl, rfl, rfl, rfl, rfl⟩ := hrel
    dsimp only
    by_cases hlt : k < 64
    · have hk64 : (k : Int) < 64 := by omega
      have hk0 : (0 : Int) ≤ (k : Int) := by omega
      have hkc := hKK.at k hlt
      have hix := idx54 l k hlt hl.out
      rw [hlg.out k hlt] at hix
      have hf1 := u_xor
      have hf2 := u_and
      have hf3 := u_add'
      have hf4 := u_notw
      generalize hxx : W (mb s) k = x at hix
      have HXX := Lib.hid hxx
      clear hxx
      go_wp2_with (go_at_call 97; (first | (with_reducible refine (rot2 _ _).mono ?_) | (with_reducible refine (rot13 _ _).mono ?_) | (with_reducible refine (rot22 _ _).mono ?_) | (with_reducible refine (rot6 _ _).mono ?_) | (with_reducible refine (rot11 _ _).mono ?_) | (with_reducible refine (rot25 _ _).mono ?_)); rintro e w' ⟨rfl, rfl⟩)
      go_round
      case rel =>
        refine ⟨k + 1, by omega, by go_num, rnd (kc k) x ⟨qa, qb, qc, qd, qe, qf, qg, qh⟩, ?_, rfl, rfl, rfl, rfl, rfl, rfl, rfl, rfl⟩
        exact Lib.hid (by rw [rnds, ← hq.out, ← HXX.out])
      case measure => simp [intOf]; omega
    · clear HI HO hl hlg hKK
      go_wp2_with (refine wpList_store_row rfl 111 (.tmp 4) (.tmp 139) rfl (w.heap.size + 1) _ rfl rfl 111 _ rr1.heap ?hi ?ho ?h1 ?_)
      case hi => simpa using size35
      case ho => rfl
      case h1 => simp [Value.oneCell']
      simp only [u_add']
      change bodyPost _ _ _ _ _ ((World.drewN wz _).setRow (w.heap.size + 1) (wvs (St.add ⟨a, b, c, d, e, f, g, h⟩ ⟨qa, qb, qc, qd, qe, qf, qg, qh⟩).l))
      refine bodyPost_ret (v := .agg (wvs (St.add ⟨a, b, c, d, e, f, g, h⟩ ⟨qa, qb, qc, qd, qe, qf, qg, qh⟩).l)) (results_cell_row rfl _ _ (w.heap.size + 1) 111 _ (0, 0) _ rfl (Row.put (w := World.drewN wz _) rr1 _) Tryd.underlying111 rfl (info35 _)) rfl ⟨?_, below_setRow (w := World.drewN wz _) ⟨hBB.os, hBB.tape, hBB.output, hBB.size, hBB.block⟩ (by omega) _⟩
      have hk64 : k = 64 := by omega
      subst hk64
      rw [hq.out, HST.out]
      unfold comp
      rfl
end Go.Proofs.YtfjlkphpeneahaaDoor.S1
