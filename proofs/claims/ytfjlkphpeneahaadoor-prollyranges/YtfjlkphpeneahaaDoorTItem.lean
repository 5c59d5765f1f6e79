/- The walks of appendText and itemBytes; the document's two and Bytes. -/
import Derived.Test.YtfjlkphpeneahaaDoorTBase
namespace Go.Proofs.YtfjlkphpeneahaaDoor
open Go Go.RowKit
attribute [-go_sem] Builtin.append_

theorem be2_cells (n : Nat) (hn : n ≤ 60000) : bvs (be2 n) = #[.int .u8 ((n : Int) / 256), .int .u8 ((n : Int) % 256)] := by
  have h1 : ((UInt8.ofNat (n / 256)).toNat : Int) = (n : Int) / 256 := by rw [u8_small (by omega)]; omega
  have h2 : ((UInt8.ofNat (n % 256)).toNat : Int) = (n : Int) % 256 := by rw [u8_small (by omega)]; omega
  unfold be2 bvs
  simp only [List.map_cons, List.map_nil, bv, h1, h2]
theorem OwB.nochg {w w' : World} {base : Nat} {v : Value} {l : Bs} (h : OwB w base v l) (hb : Below w.heap.size w w') : OwB w' base v l := h.keep (Ch.of_new (S := fun _ => False) hb) (fun _ _ => id)
set_option maxRecDepth 100000 in
set_option maxHeartbeats 400000 in
theorem appendText_any {w : World} (base : Nat) (v : Value) (l t : Bs) (hown : OwB w base v l) (hl : l.length ≤ 100000) (ht : t.length ≤ 60000) (hbase : base ≤ w.heap.size) :
    Calls Tryd.prog 88 #[v, .string (txt t)] w fun e w' => ∃ v', e = .returned v' ∧ OwB w' base v' (l ++ (be2 t.length ++ t)) ∧ Ch (fun j => base ≤ j) w w' := by
  have hz := txt_size t
  have hB := be2_cells t.length ht
  have h256 : (t.length : Int) / 256 % 256 = (t.length : Int) / 256 := by omega
  have hO := hown.nochg ((Below.refl w.heap.size w).alloc (Nat.le_refl _) (.cells (bvs (be2 t.length)) 5))
  have hR : (w.alloc (.cells (bvs (be2 t.length)) 5)).heap[w.heap.size]? = some (.cells (bvs (be2 t.length)) 5 (0, 0)) := heap_alloc_new w _
  have HB := Lib.hid hB
  rw [hB] at hO hR
  clear hB
  go_enter Tryd.func88, Tryd.ntmps88
  go_wp2_with (first
    | (at_builtin; refine wpList_bytes rfl (.tmp 5) (.tmp 13) rfl base v l rfl hO w.heap.size (be2 t.length) 2 rfl rfl (by rw [HB.out]; exact hR) (by omega) (by simp; omega) ?_; intro v1 w1 o1 c1)
    | (at_builtin; refine wpList_btext rfl (.tmp 15) (.tmp 16) rfl base v1 _ rfl o1 t rfl (by simp [be2_len]; omega) (by have := c1.size; simp at this; omega) ?_; intro v2 w2 o2 c2))
  go_ret
  have e : l ++ (be2 t.length ++ t) = l ++ be2 t.length ++ t := (List.append_assoc _ _ _).symm
  rw [e]
  refine ⟨_, rfl, o2, ?_⟩
  have h1 : Ch (fun j => base ≤ j) w (w.alloc (.cells #[.int .u8 ((t.length : Int) / 256), .int .u8 ((t.length : Int) % 256)] 5)) := Ch.alloc _ _ _
  exact (h1.tr (c1.mono fun j _ hj => (hown.own j hj).1)).tr (c2.mono fun j _ hj => (o1.own j hj).1)
/-- Room for bytes. -/
theorem make_bytes (w : World) (c : Nat) (z : Int) (hz : z = (c : Int)) (hc : c ≤ 1000000) : ∃ w', (Instr.makeSlice 108 (.int .i64 0) (.int .i64 z)).run Tryd.prog w = .ok (.slice (some ⟨w.heap.size, 0, none⟩) 0 c) w' ∧ OwB w' w.heap.size (.slice (some ⟨w.heap.size, 0, none⟩) 0 c) [] ∧ Below w.heap.size w w' := by
  subst hz
  obtain ⟨i0, hi, hz0, hz1, hz2⟩ := info_parts Tryd.info5
  obtain ⟨wm, h1, h2, h3⟩ := run_makeSlice_owned (P := Tryd.prog) w w.heap.size 108 5 i0 (.int .u8 0) 1 Tryd.underlying108 hi hz0 hz1 .i64 .i64 c (by omega) (by rw [hz2]; omega) (by unfold maxLen; omega) (Nat.le_refl _)
  exact ⟨wm, h1, h2, (Ch.of_grown (S := fun _ => False) h3 (fun k hk => by cases hk)).new⟩
theorem conv_txt {w : World} {base : Nat} {v : Value} {l : Bs} (h : OwB w base v l) : (convert 108 9 v).run Tryd.prog w = .ok (.string (txt l)) w := conv_own h
set_option maxRecDepth 100000 in
set_option maxHeartbeats 400000 in
theorem itemBytes_any (x : It) (hx : x.1.length ≤ 20000 ∧ x.2.length ≤ 20000) (w : World) :
    Calls Tryd.prog 59 #[iv x] w fun e w' => e = .returned (.string (txt (itemL x))) ∧ Below w.heap.size w w' := by
  obtain ⟨k, v⟩ := x
  have hk : k.length ≤ 20000 := hx.1
  have hv : v.length ≤ 20000 := hx.2
  have zk := txt_size k
  have zv := txt_size v
  unfold iv
  dsimp only
  have hb0 : Below w.heap.size w (w.alloc (.cells #[.string (txt k), .string (txt v)] 52)) := (Below.refl _ _).alloc (Nat.le_refl _) _
  have hr0 := heap_alloc_new w (.cells #[.string (txt k), .string (txt v)] 52)
  have hz0 := hb0.size
  have hs0 : (w.alloc (.cells #[.string (txt k), .string (txt v)] 52)).heap.size = w.heap.size + 1 := by simp
  obtain ⟨wm, hmk, hO, hbm⟩ := make_bytes (w.alloc (.cells #[.string (txt k), .string (txt v)] 52)) (2 + k.length + 2 + v.length) (2 + (k.length : Int) + 2 + (v.length : Int)) (by omega) (by omega)
  rw [hs0] at hmk
  have P1 : Hid (Calls Tryd.prog 88 #[.slice (some ⟨w.heap.size + 1, 0, none⟩) 0 (2 + k.length + 2 + v.length), .string (txt k)] wm fun e w' => ∃ v', e = .returned v' ∧ OwB w' (w.heap.size + 1) v' (be2 k.length ++ k) ∧ Below (w.heap.size + 1) wm w') := Lib.hid (by
    rw [hs0] at hO
    refine (appendText_any (w.heap.size + 1) _ [] k hO (by simp) (by omega) (by have := hbm.size; omega)).mono ?_
    rintro e w' ⟨v', rfl, h1, h2⟩
    exact ⟨v', rfl, h1, h2.below (by have := hbm.size; omega) fun k h3 h4 => by omega⟩)
  have P2 : Hid (∀ V v1, OwB V (w.heap.size + 1) v1 (be2 k.length ++ k) → w.heap.size + 1 ≤ V.heap.size → Calls Tryd.prog 88 #[v1, .string (txt v)] V fun e w' => ∃ v', e = .returned v' ∧ OwB w' (w.heap.size + 1) v' (itemL (k, v)) ∧ Below (w.heap.size + 1) V w') := Lib.hid fun V v1 h1 h2 => by
    refine (appendText_any (w.heap.size + 1) v1 _ v h1 (by simp [be2_len]; omega) (by omega) h2).mono ?_
    rintro e w' ⟨v', rfl, h3, h4⟩
    rw [List.append_assoc] at h3
    exact ⟨v', rfl, h3, h4.below h2 fun k h5 h6 => by omega⟩
  have c0 : (w.alloc (.cells #[.string (txt k), .string (txt v)] 52)).cell? ⟨w.heap.size, 0, none⟩ = some (.string (txt k)) := cell_of_row _ _ 0 _ _ _ hr0
  have hrm := (hbm.block w.heap.size (by omega)).trans hr0
  have c1 : wm.cell? ⟨w.heap.size, 0, none⟩ = some (.string (txt k)) := cell_of_row _ _ 0 _ _ _ hrm
  have HK : Hid (∀ V, Below (w.heap.size + 1) wm V → V.cell? ⟨w.heap.size, 1, none⟩ = some (.string (txt v)) ∧ w.heap.size + 1 ≤ V.heap.size ∧ Below w.heap.size w V) := Lib.hid fun V hV => by
    have h1 := hV.block w.heap.size (by omega)
    have h2 := hbm.size
    have h3 := hV.size
    exact ⟨cell_of_row _ _ 1 _ _ _ (h1.trans hrm), by omega, (hb0.trans (hbm.mono (by omega))).trans (hV.mono (by omega))⟩
  clear hO hb0 hr0 hrm hbm hz0 hs0
  generalize itemL (k, v) = r at *
  go_enter Tryd.func59, Tryd.ntmps59
  go_wp2_with (first
    | (go_at_call 88; (with_reducible refine P1.out.mono ?_); rintro e w1 ⟨v1, rfl, o1, b1⟩; obtain ⟨c2, z1, q1⟩ := HK.out _ b1)
    | (go_at_call 88; (with_reducible refine (P2.out _ _ o1 z1).mono ?_); rintro e w2 ⟨v2, rfl, o2, b2⟩; have hcv := conv_txt o2))
  go_ret
  exact ⟨rfl, q1.trans (b2.mono (by omega))⟩
theorem two_run (n : Nat) (hn : n ≤ 60000) (w : World) : (convert 108 9 (.slice (some ⟨w.heap.size, 0, none⟩) 2 2)).run Tryd.prog (w.alloc (.cells #[.int .u8 ((n : Int) / 256), .int .u8 ((n : Int) % 256)] 5)) = .ok (.string (txt (be2 n))) (w.alloc (.cells #[.int .u8 ((n : Int) / 256), .int .u8 ((n : Int) % 256)] 5)) := by
  rw [← be2_cells n hn]
  refine run_convert_bytes_back _ 108 9 5 ⟨w.heap.size, 0, none⟩ 2 (be2 n) Tryd.underlying108 Tryd.underlying5 Tryd.underlying9 ?_
  intro j hj
  rw [add0, cell_of_row _ _ _ _ _ _ (heap_alloc_new _ _)]
  simp [bvs, bv, hj]
set_option maxRecDepth 100000 in
set_option maxHeartbeats 400000 in
theorem two_any (n : Nat) (hn : n ≤ 60000) (w : World) : Calls Tryd.prog 65 #[.int .i64 (n : Int)] w fun e w' => e = .returned (.string (txt (be2 n))) ∧ Below w.heap.size w w' := by
  have hc := two_run n hn w
  have h256 : (n : Int) / 256 % 256 = (n : Int) / 256 := by omega
  go_enter Tryd.func65, Tryd.ntmps65
  go_wp2
  go_ret
  exact ⟨rfl, (Below.refl _ _).alloc (Nat.le_refl _) _⟩
end Go.Proofs.YtfjlkphpeneahaaDoor
