/- The walks of find, strings.Clone, fileFor. -/
import Derived.Test.YtogihpofkjpokaaGreatDoorDTurn
import Derived.Deep.RegionWith
import Derived.StillTailTactics
import Derived.Laws.Cover3
namespace Go.Proofs.YtogihpofkjpokaaGreatDoor.D4
open Go Go.RowKit Go.Maps

/-- Why there is no file to be had; 0: there is. -/
def S.findC (s : S) (n : List UInt8) : Int := if s.down then 3 else if nameB n then (if (look n s.fs).isSome then 0 else 4) else 1
def S.findP (s : S) (n : List UInt8) : Value := if s.down then .pointer none else if nameB n then ptr (look n s.fs) else .pointer none
set_option maxRecDepth 100000 in
set_option maxHeartbeats 1000000 in
theorem find_any {w : World} {d : Nat} {s : S} (h : At w d s) (n : ByteArray) :
    Calls Tryz.prog 71 #[dp d, .string n] w fun e w' => e = .returned (.tuple #[s.findP n.data.toList, .int .i64 (s.findC n.data.toList)]) ∧ w' = w := by
  have HD := Lib.hid (down_any h)
  have HN := Lib.hid (isName_any n w)
  unfold dp at HD
  unfold S.findP S.findC
  cases hd : s.down with
  | true =>
    rw [hd] at HD
    clear h hd
    unfold dp
    go_enter Tryz.func71, Tryz.ntmps71
    go_wp2_with (go_at_call 29; (with_reducible refine HD.out.mono ?_); rintro e w1 ⟨rfl, rfl⟩)
    go_ret2
    exact ⟨rfl, rfl⟩
  | false =>
    rw [hd] at HD
    clear hd
    cases hn : nameB n.data.toList with
    | false =>
      rw [hn] at HN
      clear h hn
      unfold dp
      go_enter Tryz.func71, Tryz.ntmps71
      go_wp2_with (first | (go_at_call 29; (with_reducible refine HD.out.mono ?_); rintro e w1 ⟨rfl, rfl⟩) | (go_at_call 92; (with_reducible refine HN.out.mono ?_); rintro e w1 ⟨rfl, rfl⟩))
      go_ret2
      exact ⟨rfl, rfl⟩
    | true =>
      have hsz := name_len hn
      rw [size_data] at hsz
      have hL := h.look n (by omega)
      have c2 := h.c2
      rw [hn] at HN
      clear h hn hsz
      generalize s.m = m at c2 hL
      cases hl : look n.data.toList s.fs with
      | none =>
        rw [hl] at hL
        clear hl
        simp only [ptr, Option.isSome_none] at hL
        unfold dp
        go_enter Tryz.func71, Tryz.ntmps71
        go_wp2_with (first | (go_at_call 29; (with_reducible refine HD.out.mono ?_); rintro e w1 ⟨rfl, rfl⟩) | (go_at_call 92; (with_reducible refine HN.out.mono ?_); rintro e w1 ⟨rfl, rfl⟩))
        go_ret2
        exact ⟨rfl, rfl⟩
      | some f =>
        rw [hl] at hL
        clear hl
        simp only [ptr, Option.isSome_some, dp] at hL
        unfold dp
        go_enter Tryz.func71, Tryz.ntmps71
        go_wp2_with (first | (go_at_call 29; (with_reducible refine HD.out.mono ?_); rintro e w1 ⟨rfl, rfl⟩) | (go_at_call 92; (with_reducible refine HN.out.mono ?_); rintro e w1 ⟨rfl, rfl⟩))
        go_ret2
        exact ⟨rfl, rfl⟩
set_option maxRecDepth 100000 in
theorem clone_any (s : ByteArray) (w : World) (hs : s.size ≤ 1000000) : Calls Tryz.prog 39 #[.string s] w fun e w' => e = .returned (.string s) ∧ Below w.heap.size w w' := by
  go_enter Tryz.func39, Tryz.ntmps39
  go_wp2_with (go_at_call 65; (with_reducible refine (Tryz.stringslite_Clone s w (by omega)).mono ?_); rintro e w1 ⟨rfl, hb⟩)
  go_ret
  exact ⟨rfl, hb⟩

theorem map_nil (m : Option Nat) (w : World) : (binOp .eql 60 (.map m) (.map none)).run Tryz.prog w = .ok (.bool m.isNone) w := by
  simp only [binOp]
  simp [run_equal_map_nil w 60 9 80 m Tryz.underlying60]
theorem undrew {n : Nat} {A B : World} (h : Below n A.drew B) : Below n A B := ⟨h.os, h.tape, h.output, h.size, h.block⟩
/-- A new file put behind a clone of its name. -/
theorem add_step {w w1 : World} {d : Nat} {s : S} {b g : Nat} {n : ByteArray} (h : At w d s) (hm : s.m = some b) (hn : look n.data.toList s.fs = none) (hb : nameB n.data.toList = true) (hl : s.fs.length < 1000000)
    (hg : w.heap[g]? = some (.cells #[.slice none 0 0, .int .i64 0] 112 (0, 0))) (hf : ¬ Foot d s g) (hbe : Below w.heap.size w w1) :
    ∃ w2, (Instr.mapUpdate 60 (.map (some b)) (.string n) (.pointer (some ⟨g, 0, none⟩))).run Tryz.prog w1 = .ok () w2 ∧ At w2 d { s with fs := put n.data.toList ⟨g, .slice none 0 0, [], 0⟩ s.fs } ∧ Ch (fun k => k = b) w w2 := by
  have hsz := name_len hb
  rw [size_data] at hsz
  have h1 := h.new hbe
  have hg1 : w1.heap[g]? = some (.cells #[.slice none 0 0, .int .i64 0] 112 (0, 0)) := (hbe.block g (lt_of_heap hg)).trans hg
  obtain ⟨w2, hr, ho, hgr⟩ := (h1.map b hm).update (string_keyed Tryz.underlying9) Tryz.underlying60 (by unfold maxLen; omega) (keyS n (by omega)) (rdP_some g)
  exact ⟨w2, hr, h1.more hm hn hb hg1 hf ho hgr, (Ch.of_new hbe).tr (Ch.of_grown hgr fun k hk => by cases hk; rfl)⟩
set_option maxRecDepth 100000 in
set_option maxHeartbeats 4000000 in
theorem fileFor_new {w : World} {d : Nat} {s : S} (h : At w d s) (n : ByteArray) (hn : nameB n.data.toList = true) (hl : look n.data.toList s.fs = none) (hlen : s.fs.length < 1000000) {b : Nat} (hm : s.m = some b) :
    Calls Tryz.prog 104 #[dp d, .string n] w fun e w' => ∃ g, e = .returned (dp g) ∧ w.heap.size ≤ g ∧ At w' d { s with fs := put n.data.toList ⟨g, .slice none 0 0, [], 0⟩ s.fs } ∧ Ch (fun k => k = b) w w' := by
  have hsz := name_len hn
  rw [size_data] at hsz
  have hL := h.look n (by omega)
  rw [hl, hm] at hL
  simp only [ptr, Option.isSome_none] at hL
  have c2 := h.c2
  rw [hm] at c2
  have h1 := h.new ((Below.refl _ _).alloc (Nat.le_refl _) (.cells #[.slice none 0 0, .int .i64 0] 112))
  have c2' := h1.c2
  rw [show ({ s with } : S) = s from rfl, hm] at c2'
  have HA := Lib.hid (fun w1 hbe => add_step (w1 := w1) h1 hm hl hn hlen (heap_alloc_new w _) (fun hf => Nat.lt_irrefl _ (h.lt hf)) hbe)
  have hE := map_nil (some b)
  have HC : Hid (∀ W, Calls Tryz.prog 39 #[.string n] W fun e w' => e = .returned (.string n) ∧ Below W.heap.size W w') := Lib.hid fun W => clone_any n W (by omega)
  have hC2 : Hid (∀ w1, Below (w.alloc (.cells #[.slice none 0 0, .int .i64 0] 112)).heap.size (w.alloc (.cells #[.slice none 0 0, .int .i64 0] 112)) w1 → w1.cell? ⟨d, 2, none⟩ = some (.map (some b))) := Lib.hid fun w1 hbe => by have := (h1.new hbe).c2; rwa [hm] at this
  clear h h1
  unfold dp
  go_enter Tryz.func104, Tryz.ntmps104
  go_wp2_with fail
  go_region_with (go_at_call 39; (with_reducible refine (HC.out _).mono ?_); rintro e w1 ⟨rfl, hb⟩; have c2b := hC2.out w1 (undrew hb); obtain ⟨w2, hrun, hA2, hCh⟩ := HA.out w1 (undrew hb); clear hb)
  all_goals clear hrun c2b
  all_goals go_wp2
  all_goals (go_ret; exact ⟨w.heap.size, rfl, Nat.le_refl _, hA2, (Ch.alloc _ _ _).tr hCh⟩)
theorem At.made' {w : World} {d : Nat} {s : S} (h : At w d s) (hm : s.m = none) : At ((w.setCell ⟨d, 2, none⟩ (.map (some w.heap.size))).alloc (.map #[] 0)) d { s with m := some w.heap.size } := by
  have hlt := lt_of_heap h.blk
  have e := h.nomap hm
  have hz : (w.setCell ⟨d, 2, none⟩ (.map (some w.heap.size))).heap.size = w.heap.size := by simp [World.setCell]
  refine ⟨(Below.heap_alloc _ _ _ (by rw [hz]; exact hlt)).trans (h.set 2 _), fun b hb => ?_, (fun e => by cases e), h.asc, h.names, (fun p hp => by rw [e] at hp; cases hp), h.far, h.used, h.most, h.room, h.fuel⟩
  cases hb
  show World.ownsMap _ _ _ _ _ s.fs.length (dat (on F.blk s.fs))
  rw [e]
  have := World.ownsMap_made (w.setCell ⟨d, 2, none⟩ (.map (some w.heap.size))) Tryz.prog 9 rdP
  rw [hz] at this
  exact this
set_option maxRecDepth 100000 in
set_option maxHeartbeats 4000000 in
theorem fileFor_first {w : World} {d : Nat} {s : S} (h : At w d s) (n : ByteArray) (hn : nameB n.data.toList = true) (hm : s.m = none) :
    Calls Tryz.prog 104 #[dp d, .string n] w fun e w' => ∃ g, e = .returned (dp g) ∧ w.heap.size ≤ g ∧ At w' d { s with m := some w.heap.size, fs := put n.data.toList ⟨g, .slice none 0 0, [], 0⟩ s.fs } ∧ Ch (fun k => k = d ∨ w.heap.size ≤ k) w w' := by
  have hsz := name_len hn
  rw [size_data] at hsz
  have hfs := h.nomap hm
  have hl : look n.data.toList s.fs = none := by rw [hfs]; rfl
  have hL := h.look n (by omega)
  rw [hl, hm] at hL
  simp only [ptr, Option.isSome_none] at hL
  have c2 := h.c2
  rw [hm] at c2
  have f2 := h.fr 2
  have hM := h.made' hm
  have hz : ((w.setCell ⟨d, 2, none⟩ (.map (some w.heap.size))).alloc (.map #[] 0)).heap.size = w.heap.size + 1 := by simp [World.setCell]
  have h1 := hM.new ((Below.refl _ _).alloc (Nat.le_refl _) (.cells #[.slice none 0 0, .int .i64 0] 112))
  have c2' := h1.c2
  have hE := map_nil none
  have HA := Lib.hid (fun w1 hbe => add_step (w1 := w1) h1 rfl hl hn (by show s.fs.length < 1000000; rw [hfs]; decide) (heap_alloc_new _ _) (fun hf => Nat.lt_irrefl _ (hM.lt hf)) hbe)
  rw [hz] at HA
  have HC : Hid (∀ W, Calls Tryz.prog 39 #[.string n] W fun e w' => e = .returned (.string n) ∧ Below W.heap.size W w') := Lib.hid fun W => clone_any n W (by omega)
  have hC2 : Hid (∀ w1, Below (((w.setCell ⟨d, 2, none⟩ (.map (some w.heap.size))).alloc (.map #[] 0)).alloc (.cells #[.slice none 0 0, .int .i64 0] 112)).heap.size (((w.setCell ⟨d, 2, none⟩ (.map (some w.heap.size))).alloc (.map #[] 0)).alloc (.cells #[.slice none 0 0, .int .i64 0] 112)) w1 → w1.cell? ⟨d, 2, none⟩ = some (.map (some w.heap.size))) := Lib.hid fun w1 hbe => (h1.new hbe).c2
  have hdl := lt_of_heap h.blk
  have hmm := @run_makeMap Tryz.prog
  clear h h1 hM
  simp only at c2'
  unfold dp
  go_enter Tryz.func104, Tryz.ntmps104
  go_wp2_with fail
  go_region_with (go_at_call 39; (with_reducible refine (HC.out _).mono ?_); rintro e w1 ⟨rfl, hb⟩; have c2b := hC2.out w1 (undrew hb); obtain ⟨w2, hrun, hA2, hCh⟩ := HA.out w1 (undrew hb); clear hb)
  all_goals clear hrun c2b
  all_goals go_wp2
  all_goals (go_ret; refine ⟨w.heap.size + 1, rfl, by omega, hA2, ?_⟩)
  all_goals exact (((Ch.setCell _ _ _ fun _ => .inl rfl).tr (Ch.alloc _ _ _)).tr (Ch.alloc _ _ _)).trans hCh fun j hj e => by omega
set_option maxRecDepth 100000 in
set_option maxHeartbeats 1000000 in
theorem fileFor_old {w : World} {d : Nat} {s : S} (h : At w d s) (n : ByteArray) (hn : nameB n.data.toList = true) {f : F} (hl : look n.data.toList s.fs = some f) :
    Calls Tryz.prog 104 #[dp d, .string n] w fun e w' => e = .returned (dp f.blk) ∧ w' = w := by
  have hsz := name_len hn
  rw [size_data] at hsz
  have hL := h.look n (by omega)
  rw [hl] at hL
  simp only [ptr, Option.isSome_some, dp] at hL
  have c2 := h.c2
  clear h
  generalize s.m = m at c2 hL
  unfold dp
  go_enter Tryz.func104, Tryz.ntmps104
  go_wp2
  go_ret
  exact ⟨rfl, rfl⟩
end Go.Proofs.YtogihpofkjpokaaGreatDoor.D4
