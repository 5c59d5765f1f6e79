/- The walk of buildLevel. -/
import Derived.Test.YtfjlkphpeneahaaDoorM2
import Derived.Test.YtfjlkphpeneahaaDoorTNodeB
import Derived.Test.YtfjlkphpeneahaaDoorM1
import Derived.Test.YtfjlkphpeneahaaDoorCutW
namespace Go.Proofs.YtfjlkphpeneahaaDoor
open Go Go.RowKit
attribute [-go_sem] Builtin.append_

theorem OwT.fr {w : World} {base g : Nat} {n c : Nat} {xs : List Bs} (h : OwT w base (.slice (some ⟨g, 0, none⟩) n c) xs) (j : Nat) : w.frozen? ⟨g, j, none⟩ = false := by
  rcases h.2 with ⟨hv, h0⟩ | ⟨g', cap, cur, hv, hb, hg, hnc, hcm, hcs, ht⟩
  · cases hv
  · cases hv
    exact frozen_of_row _ _ _ _ _ hg
theorem OwT.stored {w : World} {base g : Nat} {n c : Nat} {xs : List Bs} (h : OwT w base (.slice (some ⟨g, 0, none⟩) n c) xs) (i : Nat) (x : Bs) :
    OwT (w.setCell ⟨g, i, none⟩ (.string (txt x))) base (.slice (some ⟨g, 0, none⟩) n c) (xs.set i x) ∧ Ch (fun k => k = g) w (w.setCell ⟨g, i, none⟩ (.string (txt x))) := by
  have hn : n = xs.length := by
    rcases h.2 with ⟨hv, h0⟩ | ⟨g', cap, cur, hv, _⟩
    · cases hv
    · cases hv; rfl
  subst hn
  have h1 := World.ownsRow.stored h i (.string (txt x))
  refine ⟨?_, Ch.of_grown h1.2 fun k hk => by cases hk; rfl⟩
  unfold OwT
  rw [List.length_set, List.map_set]
  exact h1.1
theorem make_texts (w : World) (c : Nat) (hc : c ≤ 1000000) : ∃ w', (Instr.makeSlice 27 (.int .i64 (c : Int)) (.int .i64 (c : Int))).run Tryd.prog w = .ok (.slice (some ⟨w.heap.size, 0, none⟩) c c) w' ∧ OwT w' w.heap.size (.slice (some ⟨w.heap.size, 0, none⟩) c c) (List.replicate c []) ∧ Below w.heap.size w w' := by
  obtain ⟨i0, hi, hz0, hz1, hz2⟩ := info_parts Tryd.info9
  obtain ⟨wm, h1, h2, h3⟩ := run_makeSlice_full (P := Tryd.prog) w w.heap.size 27 9 i0 _ 1 Tryd.underlying27 hi hz0 hz1 .i64 .i64 c (by omega) (by rw [hz2]; omega) (by unfold maxLen; omega) (Nat.le_refl _)
  refine ⟨wm, h1, ?_, (Ch.of_grown (S := fun _ => False) h3 (fun k hk => by cases hk)).new⟩
  unfold OwT
  rw [List.length_replicate]
  have e : (List.replicate c ([] : Bs)).map sv = (madeCells (Value.cells (.string ByteArray.empty)) (c * 1)).toList := by
    have h2 : ∀ y ∈ (madeCells (Value.cells (.string ByteArray.empty)) (c * 1)).toList, y = .string ByteArray.empty := fun y hy => by
      unfold madeCells at hy
      rw [Array.toList_map, List.mem_map] at hy
      obtain ⟨i, _, rfl⟩ := hy
      show #[Value.string ByteArray.empty][i % 1]! = _
      rw [Nat.mod_one]; rfl
    rw [List.eq_replicate_of_mem h2, Array.length_toList, size_madeCells, List.map_replicate, Nat.mul_one]
    rfl
  rw [e]
  exact h2
theorem partsL_at {α : Type} : ∀ (ps : List Nat) (l : List α) (i : Nat), i < ps.length → (partsL ps l)[i]? = some ((l.drop (ps.take i).sum).take (ps.getD i 0))
  | [], _, i, h => absurd h (by simp)
  | p :: ps, l, 0, _ => by simp [partsL]
  | p :: ps, l, i + 1, h => by
    show (partsL ps (l.drop p))[i]? = _
    rw [partsL_at ps (l.drop p) i (by simpa using h), List.take_succ_cons, List.sum_cons, List.drop_drop]
    rfl
theorem sum_take_le : ∀ (ps : List Nat) (i : Nat), i < ps.length → (ps.take i).sum + ps.getD i 0 ≤ ps.sum
  | [], i, h => absurd h (by simp)
  | p :: ps, 0, _ => by simp
  | p :: ps, i + 1, h => by
    have := sum_take_le ps i (by simpa using h)
    rw [List.take_succ_cons, List.sum_cons, List.sum_cons]
    show p + (ps.take i).sum + ps.getD i 0 ≤ _
    omega
theorem sum_take_succ {ps : List Nat} {i : Nat} (h : i < ps.length) : (ps.take (i + 1)).sum = (ps.take i).sum + ps.getD i 0 := by
  rw [List.take_succ_eq_append_getElem h, List.sum_append, List.getD_eq_getElem?_getD, List.getElem?_eq_getElem h]
  simp
theorem map_snoc {α β : Type} (f : α → β) (l : List α) {i : Nat} {y : α} (h : l[i]? = some y) : (l.map f).take (i + 1) = (l.map f).take i ++ [f y] := by
  have hi := (List.getElem?_eq_some_iff.1 h).1
  rw [List.take_succ_eq_append_getElem (by rw [List.length_map]; exact hi)]
  congr 2
  rw [List.getElem_map]
  congr 1
  exact (List.getElem?_eq_some_iff.1 h).2
theorem nodeL_eq (lev : Nat) (q : List It) : nodeL lev q = node0 lev q.length ++ (q.map itemL).flatten := by
  unfold nodeL node0
  rw [List.flatMap_def]
  rfl
theorem set_midT (done : List Bs) (k : Nat) (x : Bs) : (done ++ List.replicate (k + 1) ([] : Bs)).set done.length x = (done ++ [x]) ++ List.replicate k [] := by
  rw [List.set_append_right _ _ (Nat.le_refl _), Nat.sub_self, List.replicate_succ, List.set_cons_zero, List.append_assoc]
  rfl
/-- What buildLevel asks of a level. -/
structure LvOk (lev : Nat) (l : List It) : Prop where
  le : lev < 256
  few : l.length ≤ 1000
  item : ∀ x ∈ l, x.1.length ≤ 2000 ∧ x.2.length ≤ 8000
  node : ∀ q ∈ partsOf l, (nodeL lev q).length ≤ 100000 ∧ totB lev q = totL lev q ∧ totB lev q < 9223372036854775808
theorem own_kind {w : World} {b e s n : Nat} {v : Value} {x : List Value} (h : w.ownsRow b e s v n x) (j : Nat) (hj : v.ownBlock = some j) : ∃ c, w.heap[j]? = some (.cells c e (0, 0)) := by
  rcases h.2 with ⟨hv, _⟩ | ⟨g', cap, cur, hv, hb, hg, _⟩
  · rw [hv] at hj; cases hj
  · rw [hv] at hj; cases hj; exact ⟨cur, hg⟩
theorem own_apart {w : World} {b1 b2 e1 e2 s1 s2 n1 n2 : Nat} {v1 v2 : Value} {x1 x2 : List Value} (h1 : w.ownsRow b1 e1 s1 v1 n1 x1) (h2 : w.ownsRow b2 e2 s2 v2 n2 x2) (he : e1 ≠ e2) : ∀ j, v1.ownBlock = some j → v2.ownBlock ≠ some j := fun j hj hk => by
  obtain ⟨c1, q1⟩ := own_kind h1 j hj
  obtain ⟨c2, q2⟩ := own_kind h2 j hk
  rw [q1] at q2
  injection q2 with q2
  injection q2 with _ q2
  exact he q2
theorem own_keep {S : Nat → Prop} {w w' : World} {b e s n : Nat} {v : Value} {x : List Value} (h : w.ownsRow b e s v n x) (hc : Ch S w w') (hs : ∀ j, v.ownBlock = some j → ¬ S j) : w'.ownsRow b e s v n x := by
  refine ⟨h.1, ?_⟩
  rcases h.2 with h2 | ⟨g, cap, cur, hv, hb, hg, r⟩
  · exact .inl h2
  · exact .inr ⟨g, cap, cur, hv, hb, (hc.block g (lt_of_heap hg) (hs g (by rw [hv]; rfl))).trans hg, r⟩
theorem own_new {w w' : World} {b e s n : Nat} {v : Value} {x : List Value} (h : w.ownsRow b e s v n x) (hb : Below w.heap.size w w') : w'.ownsRow b e s v n x := own_keep h (Ch.of_new (S := fun _ => False) hb) fun _ _ => id
theorem own_below {w w' : World} {b e s n k : Nat} {v : Value} {x : List Value} (h : w.ownsRow b e s v n x) (hb : Below k w w') (hk : ∀ j, v.ownBlock = some j → j < k) : w'.ownsRow b e s v n x := by
  refine ⟨h.1, ?_⟩
  rcases h.2 with h2 | ⟨g, cap, cur, hv, hg', hg, r⟩
  · exact .inl h2
  · exact .inr ⟨g, cap, cur, hv, hg', (hb.block g (hk g (by rw [hv]; rfl))).trans hg, r⟩
/-- What the rounds over the parts keep. -/
structure LvI (w wr : World) (g lev : Nat) (l : List It) (es : List Nat) (ve v1 v2 : Value) (ii : Nat) : Prop where
  n : OwT wr (g + 1) v1 ((levelL lev l).take ii)
  u : OwP wr (g + 1) 52 v2 ((upsL lev l).take ii)
  t : OwT wr g (.slice (some ⟨g, 0, none⟩) l.length l.length) (l.map itemL)
  e : OwN wr (g + 1) ve es
  b : Below g w wr
set_option maxRecDepth 100000 in
set_option maxHeartbeats 8000000 in
theorem buildLevel_any {w : World} (hK : S1.KR w) (lev : Nat) {a : Option Addr} {l : List It} {c : Nat} (hR : RdP w a l) (hc : l.length ≤ c) (hO : LvOk lev l) :
    Calls Tryd.prog 29 #[.int .i64 (lev : Int), .slice a l.length c] w fun e w' => ∃ v1 v2, e = .returned (.tuple #[v1, v2]) ∧ OwT w' w.heap.size v1 (levelL lev l) ∧ OwP w' w.heap.size 52 v2 (upsL lev l) ∧ Below w.heap.size w w' := by
  have hl' : (l.length : Int) ≤ 1000 := by have := hO.few; omega
  obtain ⟨wm, hmk, hOT, hbm⟩ := make_texts w l.length (by have := hO.few; omega)
  have HR := Lib.hid (And.intro hR (And.intro hK (And.intro hO hc)))
  have HM := Lib.hid (And.intro hOT hbm)
  have hgw : w.heap.size < wm.heap.size := by
    rcases hOT.2 with ⟨hv, _⟩ | ⟨g', cap, cur, hv, hb, hg, _⟩
    · cases hv
    · injection hv with e1 e2 e3
      injection e1 with e1
      injection e1 with e1 e4
      rw [e1]
      exact lt_of_heap hg
  clear hR hK hO hOT hbm
  generalize hg : w.heap.size = g at *
  go_enter Tryd.func29, Tryd.ntmps29
  go_wp2
  go_loopw [19] (fun i wr => ∃ ii : Nat, i = .int .i64 (ii : Int) ∧ ii ≤ l.length ∧ Hid (OwT wr g (.slice (some ⟨g, 0, none⟩) l.length l.length) ((l.take ii).map itemL ++ List.replicate (l.length - ii) []) ∧ Below g w wr)) (fun i _ => l.length - (intOf i).toNat)
  case atStart => exact ⟨0, rfl, Nat.zero_le _, Lib.hid ⟨HM.out.1, HM.out.2⟩⟩
  case round =>
    obtain ⟨ii, rfl, hi, HI⟩ := hrel
    by_cases hlt : ii < l.length
    · have hlt' : (ii : Int) < (l.length : Int) := by omega
      have hi0 : (0 : Int) ≤ (ii : Int) := by omega
      obtain ⟨b, off, rfl, k1, k2⟩ := (HR.out.1.new (hg ▸ HI.out.2)) ii hlt
      have hxs := HR.out.2.2.1.item _ (itD_mem hlt)
      have P59 := Lib.hid (fun W => itemBytes_any (itD l ii) (by omega) W)
      have HTK : Hid (∀ y : Bs, y = itemL (itD l ii) → ((l.take ii).map itemL ++ List.replicate (l.length - ii) ([] : Bs)).set ii y = (l.take (ii + 1)).map itemL ++ List.replicate (l.length - (ii + 1)) []) := Lib.hid fun y hy => by
        have e := set_midT ((l.take ii).map itemL) (l.length - (ii + 1)) y
        rw [List.length_map, List.length_take, Nat.min_eq_left hi, show l.length - (ii + 1) + 1 = l.length - ii by omega] at e
        rw [e, take_itD hlt, List.map_append, hy]
        rfl
      unfold iv at P59
      obtain ⟨tx, htx⟩ : ∃ tx, itemL (itD l ii) = tx := ⟨_, rfl⟩
      rw [htx] at P59 HTK
      clear htx hxs
      generalize itD l ii = x at *
      obtain ⟨xk, xv⟩ := x
      dsimp only at *
      have HWR : Hid (∀ V, Below (wr.alloc (.cells #[.string (txt xk), .string (txt xv)] 52)).heap.size (wr.alloc (.cells #[.string (txt xk), .string (txt xv)] 52)) V → V.frozen? ⟨g, ii, none⟩ = false ∧ (∃ u, V.cell? ⟨g, ii, none⟩ = some (.string u)) ∧ OwT (V.setCell ⟨g, ii, none⟩ (.string (txt tx))) g (.slice (some ⟨g, 0, none⟩) l.length l.length) ((l.take (ii + 1)).map itemL ++ List.replicate (l.length - (ii + 1)) []) ∧ Below g w (V.setCell ⟨g, ii, none⟩ (.string (txt tx)))) := Lib.hid fun V hV => by
        have hb1 : Below wr.heap.size wr V := ((Below.refl wr.heap.size wr).alloc (Nat.le_refl _) _).trans (hV.mono (by simp))
        have ho := HI.out.1.new hb1
        have hst := ho.stored ii tx
        rw [HTK.out tx rfl] at hst
        obtain ⟨a', c', hv, hrd, _⟩ := ho.rd
        obtain ⟨b', off', ha', hcl⟩ := hrd ii (by simp; omega)
        injection hv with hv1 hv2 hv3
        rw [← hv1] at ha'
        injection ha' with ha'
        injection ha' with hb' ho'
        subst hb'; subst ho'
        rw [Nat.zero_add] at hcl
        have hbw := HI.out.2.trans (hb1.mono (by have := HI.out.2.size; omega))
        exact ⟨ho.fr _, ⟨_, hcl⟩, hst.1, hbw.trans (hst.2.below (by have := hbw.size; omega) fun k hk e => by omega)⟩
      generalize txt tx = ttx at *
      generalize txt xk = txk at *
      generalize txt xv = txv at *
      go_wp2_with (go_at_call 59; (with_reducible refine (P59.out _).mono ?_); rintro e w2 ⟨rfl, hb2⟩; obtain ⟨f1, ⟨u, c1⟩, ho2, hbw2⟩ := HWR.out _ hb2)
      go_roundw
      case rel => exact ⟨ii + 1, by go_num, by omega, Lib.hid ⟨ho2, hbw2⟩⟩
      case measure => simp [intOf]; omega
    · have hlt' : (l.length : Int) ≤ (ii : Int) := by omega
      have e0 : ii = l.length := by omega
      subst e0
      have hT := HI.out.1
      rw [List.take_length, Nat.sub_self, List.replicate_zero, List.append_nil] at hT
      have hRT : RdT wr (some ⟨g, 0, none⟩) (l.map itemL) := by
        obtain ⟨a', c', hv, hrd, _⟩ := hT.rd
        injection hv with hv1 hv2 hv3
        rw [hv1]; exact hrd
      have P60 := Lib.hid (cut_any (HR.out.2.1.below HI.out.2 (by have := HR.out.2.1.pos; omega)) (some ⟨g, 0, none⟩) l.length (l.map itemL) hRT (by rw [List.length_map]; exact HR.out.2.2.1.few) (fun y hy => by
        obtain ⟨x, hx, rfl⟩ := List.mem_map.1 hy
        have := HR.out.2.2.1.item x hx
        unfold itemL
        simp only [List.length_append, be2_len]
        omega))
      rw [List.length_map] at P60
      obtain ⟨es, hes⟩ : ∃ es, cutG E 0 (l.map itemL) = es := ⟨_, rfl⟩
      rw [hes] at P60
      have HES := Lib.hid hes
      have HT := Lib.hid (And.intro hT HI.out.2)
      clear hT hRT hes HI HM hmk
      go_wp2_with (go_at_call 60; (with_reducible refine P60.out.mono ?_); rintro e w3 ⟨ve, rfl, hoe, hb3⟩; obtain ⟨ea, ec, hve, _⟩ := hoe.rd; subst hve)
      have hz3 := hb3.size
      have hgr : g < wr.heap.size := by
        obtain ⟨cc, hcc⟩ := own_kind HT.out.1 g rfl
        exact lt_of_heap hcc
      have HI0 : Hid (LvI w w3 g lev l es (.slice ea es.length ec) (.slice none 0 0) (.slice none 0 0) 0) := Lib.hid ⟨OwT.nil _ _, OwP.nil _ _ _, HT.out.1.new hb3, ⟨hoe.1, hoe.2.imp id fun ⟨q, cap, cur, h1, h2, h3⟩ => ⟨q, cap, cur, h1, by omega, h3⟩⟩, HT.out.2.trans (hb3.mono (by omega))⟩
      clear hoe hb3 hz3
      have hsum : es.sum = l.length := HES.out ▸ cut_sum l
      have hsum' : (es.sum : Int) ≤ 1000 := by omega
      have hpl : (partsOf l).length = es.length := by rw [partsOf_len, HES.out]
      have hel : (es.length : Int) ≤ 1001 := by
        have := cutG_len E (l.map itemL) 0
        rw [HES.out, List.length_map] at this
        have := HR.out.2.2.1.few
        omega
      go_loopw [4, 5, 9, 33] (fun v1 v2 bg i wr => ∃ ii : Nat, i = .int .i64 (ii : Int) ∧ ii ≤ es.length ∧ bg = .int .i64 (((es.take ii).sum : Nat) : Int) ∧ Hid (LvI w wr g lev l es (.slice ea es.length ec) v1 v2 ii)) (fun _ _ _ i _ => es.length - (intOf i).toNat)
      case atStart => exact ⟨0, rfl, Nat.zero_le _, rfl, HI0⟩
      case round =>
        clear HI0 HT
        obtain ⟨ii, rfl, hi, rfl, HI⟩ := hrel
        by_cases hlt : ii < es.length
        · have hlt' : (ii : Int) < (es.length : Int) := by omega
          have hi0 : (0 : Int) ≤ (ii : Int) := by omega
          obtain ⟨ea', ec', hve, hRN⟩ := HI.out.e.rd
          injection hve with q1 q2 q3
          subst q1; subst q3
          obtain ⟨b, off, rfl, k1⟩ := hRN ii hlt
          have hs0 := sum_take_le es ii hlt
          have hs1 := sum_take_succ hlt
          have hq := partsL_at es l ii hlt
          obtain ⟨B, hB⟩ : ∃ B, (es.take ii).sum = B := ⟨_, rfl⟩
          obtain ⟨S, hS⟩ : ∃ S, es.getD ii 0 = S := ⟨_, rfl⟩
          rw [hB, hS] at hs1 hq hs0
          rw [hS] at k1
          rw [hB]
          have hqm : (l.drop B).take S ∈ partsOf l := by
            unfold partsOf
            rw [HES.out]
            exact List.mem_of_getElem? hq
          obtain ⟨q, hqq⟩ : ∃ q, (l.drop B).take S = q := ⟨_, rfl⟩
          have hql : q.length = S := by rw [← hqq, List.length_take, List.length_drop]; omega
          rw [hqq] at hqm hq
          have hq2 : (partsOf l)[ii]? = some q := by unfold partsOf; rw [HES.out]; exact hq
          have ht1 := map_snoc (nodeL lev) _ hq2
          have ht2 := map_snoc (upI lev) _ hq2
          have hq16 := partsOf_mem hqm
          have hOK := HR.out.2.2.1.node q hqm
          have hRT : RdT wr (some ⟨g, 0, none⟩) (l.map itemL) := by
            obtain ⟨a', c', hv, hrd, _⟩ := HI.out.t.rd
            injection hv with hv1 hv2 hv3
            rw [hv1]; exact hrd
          have hgg : g = w.heap.size := hg.symm
          have sT : ∀ V, (Instr.slice 27 (.slice (some ⟨g, 0, none⟩) l.length l.length) (some (.int .i64 (B : Int))) (some (.int .i64 ((B : Int) + (S : Int)))) none).run Tryd.prog V = .ok (.slice (if l.length = B then some ⟨g, 0, none⟩ else (some ⟨g, 0, none⟩ : Option Addr).map (·.add (B * 1))) S (l.length - B)) V := fun V => by
            rw [run_slice_lh (P := Tryd.prog) V 27 _ l.length l.length (by kernel_rfl) .i64 .i64 _ _ (by omega) (by omega) (by omega)]
            show Result.ok (sliced _ B (B + S) l.length 1) V = _
            unfold sliced
            rw [Nat.add_sub_cancel_left]
          have sP : ∀ V, (Instr.slice 30 (.slice a l.length c) (some (.int .i64 (B : Int))) (some (.int .i64 ((B : Int) + (S : Int)))) none).run Tryd.prog V = .ok (.slice (if c = B then a else a.map (·.add (B * 2))) S (c - B)) V := fun V => by
            rw [run_slice_lh (P := Tryd.prog) V 30 a l.length c (by kernel_rfl) .i64 .i64 _ _ (by omega) (by omega) (by have := HR.out.2.2.2; omega)]
            show Result.ok (sliced _ B (B + S) c 2) V = _
            unfold sliced
            rw [Nat.add_sub_cancel_left]
          have P27 : Hid (Calls Tryd.prog 27 #[.int .i64 (lev : Int), .slice (if l.length = B then some ⟨g, 0, none⟩ else (some ⟨g, 0, none⟩ : Option Addr).map (·.add (B * 1))) S (l.length - B)] wr fun e w' => e = .returned (.string (txt (nodeL lev q))) ∧ Below wr.heap.size wr w') := Lib.hid (by
            have e1 : ((l.map itemL).drop B).take S = q.map itemL := by rw [← hqq, List.map_take, List.map_drop]
            have h1 := (hRT.cut B l.length (by rw [List.length_map]; omega)).take S
            rw [e1] at h1
            have h2 := nodeBytes_any lev HR.out.2.2.1.le h1 (c := l.length - B) (by rw [List.length_map]; omega) (by rw [List.length_map]; omega) (by have := hOK.1; rw [nodeL_eq, List.length_append] at this; omega)
            rw [List.length_map, hql] at h2
            rw [nodeL_eq, hql]
            exact h2)
          have P61 : Hid (∀ V, Below g w V → Calls Tryd.prog 61 #[.agg #[.int .i64 (lev : Int), .slice (if c = B then a else a.map (·.add (B * 2))) S (c - B)], .string (txt (nodeL lev q))] V fun e w' => e = .returned (iv (upI lev q)) ∧ Below V.heap.size V w') := Lib.hid fun V hV => by
            have h1 := ((HR.out.1.new (hgg ▸ hV)).cut B c HR.out.2.2.2).take S
            rw [hqq] at h1
            have h2 := itemOf_any (HR.out.2.1.step (hgg ▸ hV)) lev h1 (c := c - B) (by omega) (fun e => by rw [e] at hql hq16; simp at hq16) (fun x hx => by
              have hx2 : x ∈ l := by
                rw [← partsOf_flat l]
                exact List.mem_flatten.2 ⟨q, hqm, hx⟩
              have := HR.out.2.2.1.item x hx2
              omega) (nodeL lev q) hOK.1 hOK.2.2
            rw [hOK.2.1, hql] at h2
            unfold nodeV at h2
            unfold upI
            rw [hql]
            exact h2
          have HX := Lib.hid (And.intro ht1 (And.intro ht2 (And.intro hs1 (And.intro hB hql))))
          generalize (if l.length = B then some ⟨g, 0, none⟩ else (some ⟨g, 0, none⟩ : Option Addr).map (·.add (B * 1))) = at1 at *
          generalize (if c = B then a else a.map (·.add (B * 2))) = ap1 at *
          generalize l.length - B = ct1 at *
          generalize c - B = cp1 at *
          have hBS : (B : Int) + (S : Int) ≤ 1000 := by omega
          clear ht1 ht2 hs1 hB hS hq hqm hqq hql hq2 hOK hRT hs0 hRN hgg
          have hwz : g < wr.heap.size := by
            obtain ⟨cc, hcc⟩ := own_kind HI.out.t g rfl
            exact lt_of_heap hcc
          have hlen1 : ((levelL lev l).take ii).length ≤ 1001 := by rw [List.length_take]; omega
          have hlen2 : ((upsL lev l).take ii).length ≤ 1001 := by rw [List.length_take]; omega
          have HB : Hid (B ≤ 1000 ∧ S ≤ 1000) := Lib.hid (by omega)
          obtain ⟨tn, htn⟩ : ∃ tn, nodeL lev q = tn := ⟨_, rfl⟩
          obtain ⟨un, hun⟩ : ∃ un, upI lev q = un := ⟨_, rfl⟩
          rw [htn] at P27 P61
          rw [hun] at P61
          have HX2 := Lib.hid (And.intro htn hun)
          clear htn hun
          obtain ⟨uk, uv⟩ := un
          unfold iv at P61
          dsimp only at P61
          obtain ⟨ttn, httn⟩ : ∃ ttn, txt tn = ttn := ⟨_, rfl⟩
          obtain ⟨tuk, htuk⟩ : ∃ tuk, txt uk = tuk := ⟨_, rfl⟩
          obtain ⟨tuv, htuv⟩ : ∃ tuv, txt uv = tuv := ⟨_, rfl⟩
          rw [httn] at P27 P61
          rw [htuk, htuv] at P61
          have HX3 := Lib.hid (And.intro httn (And.intro htuk htuv))
          clear httn htuk htuv
          go_wp2_with (first
            | (go_at_call 27; (with_reducible refine P27.out.mono ?_); rintro e w4 ⟨rfl, hb4⟩; have hz4 := hb4.size; have hN := (HI.out.n.new hb4).new ((Below.refl w4.heap.size w4).alloc (Nat.le_refl _) (.cells #[.string ttn] 9)))
            | (at_builtin; refine wpList_one rfl (.tmp 46) (.tmp 48) rfl (g + 1) u4 _ rfl hN w4.heap.size tn rfl (by rw [HX3.out.1]; exact heap_alloc_new w4 _) (by omega) (by simp; omega) ?_; intro v5 w5 o5 c5; have hb5 : Below (g + 1) wr w5 := ((hb4.mono (by omega)).alloc (by omega) (.cells #[.string ttn] 9)).trans (c5.below (by simp; omega) fun k hk e => by have := (hN.own k e).1; omega); have hz5 := hb5.size; have hU5 := (((HI.out.u.new hb4).new ((Below.refl w4.heap.size w4).alloc (Nat.le_refl _) (.cells #[.string ttn] 9))).keep c5 (own_apart ((HI.out.u.new hb4).new ((Below.refl w4.heap.size w4).alloc (Nat.le_refl _) (.cells #[.string ttn] 9))) hN (by decide))))
            | (go_at_call 61; (with_reducible refine (P61.out _ (HI.out.b.trans (hb5.mono (by omega)))).mono ?_); rintro e w6 ⟨rfl, hb6⟩; have hz6 := hb6.size; have hU6 := (hU5.new hb6).new ((Below.refl w6.heap.size w6).alloc (Nat.le_refl _) (.cells #[.string tuk, .string tuv] 52)); have hN6 := (o5.new hb6).new ((Below.refl w6.heap.size w6).alloc (Nat.le_refl _) (.cells #[.string tuk, .string tuv] 52)))
            | (at_builtin; refine wpList_pair rfl (.tmp 50) (.tmp 59) 30 52 rfl (by kernel_rfl) Tryd.info52 (g + 1) u5 _ rfl hU6 w6.heap.size (uk, uv) rfl (by rw [← HX3.out.2.1, ← HX3.out.2.2]; exact heap_alloc_new w6 _) (by omega) (by simp; omega) ?_; intro v7 w7 o7 c7))
          have hb7 : Below (g + 1) wr w7 := hb5.trans (((hb6.mono (by omega)).alloc (by omega) (.cells #[.string tuk, .string tuv] 52)).trans (c7.below (by simp; omega) fun k hk e => by have := (hU6.own k e).1; omega))
          have hE5 := own_keep (own_new (own_new HI.out.e hb4) ((Below.refl w4.heap.size w4).alloc (Nat.le_refl _) (.cells #[.string ttn] 9))) c5 (own_apart (own_new (own_new HI.out.e hb4) ((Below.refl w4.heap.size w4).alloc (Nat.le_refl _) (.cells #[.string ttn] 9))) hN (by decide))
          have hE6 := own_new (own_new hE5 hb6) ((Below.refl w6.heap.size w6).alloc (Nat.le_refl _) (.cells #[.string tuk, .string tuv] 52))
          have hE7 := own_keep hE6 c7 (own_apart hE6 hU6 (by decide))
          have hN7 := hN6.keep c7 (own_apart hN6 hU6 (by decide))
          go_roundw
          case rel => 
            refine ⟨ii + 1, by go_num, by omega, by rw [HX.out.2.2.1]; go_num, Lib.hid ⟨?_, ?_, ?_, ?_, ?_⟩⟩
            · rw [← HX2.out.1] at hN7; rw [show (levelL lev l).take (ii + 1) = (levelL lev l).take ii ++ [nodeL lev q] from HX.out.1]; exact hN7
            · rw [← HX2.out.2] at o7; rw [show (upsL lev l).take (ii + 1) = (upsL lev l).take ii ++ [upI lev q] from HX.out.2.1]; exact o7
            · have hz : ∀ j, (Value.slice (some ⟨g, 0, none⟩) l.length l.length).ownBlock = some j → j < g + 1 := fun j hj => by
                have e : j = g := by injection hj with hj; exact hj.symm
                omega
              exact own_below HI.out.t hb7 hz
            · exact hE7
            · exact HI.out.b.trans (hb7.mono (by omega))
          case measure => simp [intOf]; omega
        · have hlt' : (es.length : Int) ≤ (ii : Int) := by omega
          have hn := HI.out.n
          have hu := HI.out.u
          rw [List.take_of_length_le (by unfold levelL; rw [List.length_map]; omega)] at hn
          rw [List.take_of_length_le (by unfold upsL; rw [List.length_map]; omega)] at hu
          have HF := Lib.hid (And.intro hn hu)
          clear hn hu
          go_wp2
          go_ret2
          exact ⟨_, _, rfl, ⟨HF.out.1.1, HF.out.1.2.imp id fun ⟨q, cap, cur, h1, h2, h3⟩ => ⟨q, cap, cur, h1, by omega, h3⟩⟩, HF.out.2.low (by omega), HI.out.b⟩
end Go.Proofs.YtfjlkphpeneahaaDoor
