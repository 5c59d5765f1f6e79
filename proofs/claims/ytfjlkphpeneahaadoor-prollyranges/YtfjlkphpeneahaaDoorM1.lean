/- The walk of readText. Which pairs are a map's: the walks of mayMap and the document's Right. The walk of readItems. -/
import Derived.Test.YtfjlkphpeneahaaDoorM2
import Derived.BigQuiet
import Derived.Laws.OwnMore
import Derived.BigRegion
namespace Go.Proofs.YtfjlkphpeneahaaDoor
open Go Go.RowKit

theorem i64_or_nat (a b : Nat) (ha : a < 9223372036854775808) (hb : b < 9223372036854775808) : bits .or .i64 (a : Int) (b : Int) = ((a ||| b : Nat) : Int) := by
  have hx : a ||| b < 2 ^ 63 := Nat.or_lt_two_pow (by omega) (by omega)
  have o1 : ∀ c : Nat, c < 9223372036854775808 → (BitVec.ofInt 64 (c : Int)).toNat = c := fun c hc => by rw [BitVec.ofInt_natCast, BitVec.toNat_ofNat]; exact Nat.mod_eq_of_lt (by omega)
  show IntKind.i64.wrap ((BitVec.ofInt 64 (a : Int) ||| BitVec.ofInt 64 (b : Int)).toNat : Int) = _
  rw [BitVec.toNat_or, o1 a ha, o1 b hb, IntKind.wrap_i64]
  omega
theorem or_len (a b : Nat) (ha : a < 256) (hb : b < 256) : bits .or .i64 ((a : Int) * 256) (b : Int) = ((a * 256 + b : Nat) : Int) := by
  rw [show (a : Int) * 256 = ((a * 256 : Nat) : Int) by omega, i64_or_nat _ _ (by omega) (by omega)]
  congr 1
  have := Nat.two_pow_add_eq_or_of_lt (i := 8) (b := b) (by omega) a
  rw [show a * 256 = 2 ^ 8 * a by omega, this]
def rtV (o : Option (Bs × Bs)) : Value := match o with
  | some p => .tuple #[.string (txt p.1), .string (txt p.2), .bool true]
  | none => .tuple #[.string ⟨#[]⟩, .string ⟨#[]⟩, .bool false]
set_option maxRecDepth 100000 in
set_option maxHeartbeats 4000000 in
theorem readText_any (s : Bs) (hs : s.length ≤ 1000000000) (w : World) : Calls Tryd.prog 93 #[.string (txt s)] w fun e w' => e = .returned (rtV (rdText s)) ∧ Below w.heap.size w w' := by
  match s with
  | [] =>
    go_enter Tryd.func93, Tryd.ntmps93
    go_wp2
    go_ret3
    exact ⟨rfl, Below.refl _ _⟩
  | [b] =>
    have hz : (txt [b]).size = 1 := rfl
    have HV : Hid (rtV (rdText [b]) = .tuple #[.string ⟨#[]⟩, .string ⟨#[]⟩, .bool false]) := Lib.hid rfl
    generalize txt [b] = t at *
    go_enter Tryd.func93, Tryd.ntmps93
    go_wp2
    go_ret3
    exact ⟨HV.out.symm ▸ rfl, Below.refl _ _⟩
  | b0 :: b1 :: l =>
    have hz : (txt (b0 :: b1 :: l)).size = l.length + 2 := by rw [txt_size]; rfl
    have hsl : l.length ≤ 1000000000 := by simp at hs; omega
    have e0 : (txt (b0 :: b1 :: l))[0]? = some b0 := get_of_data _ 0 rfl
    have e1 : (txt (b0 :: b1 :: l))[1]? = some b1 := get_of_data _ 1 rfl
    have c0 : b0.toNat < 256 := b0.toNat_lt
    have c1 : b1.toNat < 256 := b1.toNat_lt
    have hT : (txt (b0 :: b1 :: l)).extract 2 (txt (b0 :: b1 :: l)).size = txt l := by rw [end_txt]; rfl
    have hzT := txt_size l
    have HV : Hid (rtV (rdText (b0 :: b1 :: l)) = rtV (if b0.toNat * 256 + b1.toNat ≤ l.length then some (l.take (b0.toNat * 256 + b1.toNat), l.drop (b0.toNat * 256 + b1.toNat)) else none)) := Lib.hid rfl
    clear hs
    generalize txt (b0 :: b1 :: l) = s at *
    rw [hz] at hT
    have r0 := run_index s .i64 0 0 rfl b0 e0
    have r1 := run_index s .i64 1 1 rfl b1 e1
    have x1 : wrap64 ((b0.toNat : Int) * 256) = (b0.toNat : Int) * 256 := by unfold wrap64; omega
    have x2 := or_len b0.toNat b1.toNat c0 c1
    have h2' : (2 : Int) ≤ (s.size : Int) := by omega
    have y1 : ∀ L, (txt l).extract 0 L = txt (l.take L) := fun L => by rw [ext_txt]; rfl
    have y2 : ∀ L, (txt l).extract L (txt l).size = txt (l.drop L) := fun L => end_txt (txt l) L
    generalize b0.toNat * 256 + b1.toNat = L at *
    have HN : Hid (∀ q, Below w.heap.size w (w.drewN q)) := Lib.hid fun q => (Ch.drewN (fun _ => False) _ q).new
    by_cases hL : L ≤ l.length
    · have hL' : (L : Int) ≤ (l.length : Int) := by omega
      rw [if_pos hL] at HV
      have z1 := y1 L
      have z2 := y2 L
      rw [hzT] at z2
      have HV2 : Hid (rtV (rdText (b0 :: b1 :: l)) = .tuple #[.string (txt (l.take L)), .string (txt (l.drop L)), .bool true]) := Lib.hid HV.out
      clear HV y1 y2 e0 e1
      generalize txt (l.take L) = p1 at *
      generalize txt (l.drop L) = p2 at *
      generalize txt l = T at *
      go_enter Tryd.func93, Tryd.ntmps93
      go_wp2
      go_big_quiet (fail)
      go_wp2
      go_big_quiet (fail)
      go_wp2
      go_ret3
      exact ⟨HV2.out.symm ▸ rfl, (HN.out _).trans ((Ch.drewN (fun _ => False) _ _).new.mono (Nat.le_refl _))⟩
    · have hL' : (l.length : Int) < (L : Int) := by omega
      rw [if_neg hL] at HV
      have HV2 : Hid (rtV (rdText (b0 :: b1 :: l)) = .tuple #[.string ⟨#[]⟩, .string ⟨#[]⟩, .bool false]) := Lib.hid HV.out
      clear HV y1 y2 e0 e1 hL
      generalize txt l = T at *
      go_enter Tryd.func93, Tryd.ntmps93
      go_wp2
      go_big_quiet (fail)
      go_wp2
      go_ret3
      exact ⟨HV2.out.symm ▸ rfl, HN.out _⟩
end Go.Proofs.YtfjlkphpeneahaaDoor
namespace Go.Proofs.YtfjlkphpeneahaaDoor
open Go Go.RowKit

theorem tl (l : Bs) : (txt l).toList = l := by rw [ByteArray.toList_eq]; rfl
theorem less_txt (a b : Bs) : Op.bytesLess (txt a).toList (txt b).toList = ltL a b := by rw [tl, tl]; rfl
theorem okAt_zero (l : List It) : okAt l 0 = decide ((itD l 0).1.length ≤ 2000 ∧ (itD l 0).2.length ≤ 8000) := by unfold okAt; simp
theorem okAt_pos (l : List It) {i : Nat} (h : 0 < i) : okAt l i = (decide ((itD l i).1.length ≤ 2000 ∧ (itD l i).2.length ≤ 8000) && ltL (itD l (i - 1)).1 (itD l i).1) := by
  unfold okAt
  rw [show (i == 0) = false by rw [beq_eq_false_iff_ne]; omega, Bool.false_or]
theorem mapOk_false {l : List It} {i : Nat} (hi : i < l.length) (h : okAt l i = false) : mapOk l = false := okN_false h hi
set_option maxRecDepth 100000 in
set_option maxHeartbeats 4000000 in
theorem mayMap_any {w : World} {a : Option Addr} {l : List It} {c : Nat} (hR : RdP w a l) (hl : l.length ≤ 1000000) (hx : ∀ x ∈ l, x.1.length ≤ 1000000 ∧ x.2.length ≤ 1000000) :
    Calls Tryd.prog 26 #[.slice a l.length c] w fun e w' => e = .returned (.bool (mapOk l)) ∧ Below w.heap.size w w' := by
  have hl' : (l.length : Int) ≤ 1000000 := by omega
  have HR := Lib.hid (And.intro hR hx)
  clear hR hx
  go_enter Tryd.func26, Tryd.ntmps26
  go_wp2
  go_loopw [3, 4, 7] (fun _ _ i wr => ∃ ii : Nat, i = .int .i64 (ii : Int) ∧ ii ≤ l.length ∧ Hid (Below w.heap.size w wr ∧ okN l ii = true)) (fun _ _ i _ => l.length - (intOf i).toNat)
  case atStart => exact ⟨0, rfl, Nat.zero_le _, Lib.hid ⟨Below.refl _ _, rfl⟩⟩
  case round =>
    obtain ⟨ii, rfl, hi, HB⟩ := hrel
    by_cases hlt : ii < l.length
    · have hlt' : (ii : Int) < (l.length : Int) := by omega
      have hi0 : (0 : Int) ≤ (ii : Int) := by omega
      have hRr := HR.out.1.new HB.out.1
      have hMF := Lib.hid (fun h : okAt l ii = false => mapOk_false hlt h)
      have hMT : Hid (okAt l ii = true → okN l (ii + 1) = true) := Lib.hid fun h => by unfold okN; rw [HB.out.2, h]; rfl
      have hxl := HR.out.2 _ (itD_mem hlt)
      have hnew : Below wr.heap.size wr (wr.alloc (.cells #[.string (txt (itD l ii).1), .string (txt (itD l ii).2)] 52)) := (Below.refl _ _).alloc (Nat.le_refl _) _
      have HN := Lib.hid (HB.out.1.trans (hnew.mono HB.out.1.size))
      by_cases h0 : ii = 0
      · subst h0
        have hok := okAt_zero l
        obtain ⟨b, off, rfl, k1, k2⟩ := hRr 0 hlt
        have z1 := txt_size (itD l 0).1
        have z2 := txt_size (itD l 0).2
        have x1 := hxl.1
        have x2 := hxl.2
        have HOK := Lib.hid hok
        generalize itD l 0 = x at *
        obtain ⟨xk, xv⟩ := x
        dsimp only at *
        clear hRr hxl hok hnew
        have e0 : ((0 : Nat) : Int) = 0 := rfl
        rw [e0] at *
        simp only [Nat.zero_mul, Nat.add_zero] at k1 k2
        by_cases h1 : xk.length ≤ 2000
        · have h1' : (xk.length : Int) ≤ 2000 := by omega
          by_cases h2 : xv.length ≤ 8000
          · have h2' : (xv.length : Int) ≤ 8000 := by omega
            have HM := Lib.hid (hMT.out (HOK.out.trans (decide_eq_true ⟨h1, h2⟩)))
            clear h1 h2
            go_wp2
            go_quiet (fail)
            go_wp2
            go_roundw
            case rel => exact ⟨1, by go_num, by omega, Lib.hid ⟨(HN.out.trans ((Ch.drewN (fun _ => False) _ nq).new.mono HN.out.size)), HM.out⟩⟩
            case measure => simp [intOf]; omega
          · have h2' : (8000 : Int) < (xv.length : Int) := by omega
            have HM := Lib.hid (hMF.out (HOK.out.trans (decide_eq_false fun h => h2 h.2)))
            clear h1 h2
            go_wp2
            go_ret
            exact ⟨by rw [HM.out]; rfl, HN.out⟩
        · have h1' : (2000 : Int) < (xk.length : Int) := by omega
          have HM := Lib.hid (hMF.out (HOK.out.trans (decide_eq_false fun h => h1 h.1)))
          clear h1
          go_wp2
          go_ret
          exact ⟨by rw [HM.out]; rfl, HN.out⟩
      · have hp : 0 < ii := by omega
        have hok := okAt_pos l hp
        obtain ⟨b, off, rfl, k1, k2⟩ := hRr ii hlt
        obtain ⟨b', off', he, k3, _⟩ := hRr (ii - 1) (by omega)
        obtain ⟨rfl, rfl⟩ : b = b' ∧ off = off' := by injection he with h; injection h with h1 h2; exact ⟨h1, h2⟩
        have hless := less_txt (itD l (ii - 1)).1 (itD l ii).1
        have z1 := txt_size (itD l ii).1
        have z2 := txt_size (itD l ii).2
        have x1 := hxl.1
        have x2 := hxl.2
        have HOK := Lib.hid hok
        have k5 : ∀ o : Obj, (wr.alloc o).cell? ⟨b, off + (ii - 1) * 2, none⟩ = some (.string (txt (itD l (ii - 1)).1)) := fun o => (Ch.alloc (fun _ => False) wr o).cell k3 id
        have i1 : (ii : Int) - 1 = ((ii - 1 : Nat) : Int) := by omega
        have i2 : (0 : Int) ≤ (ii : Int) - 1 := by omega
        have i3 : (ii : Int) - 1 < (l.length : Int) := by omega
        have i4 : ((ii : Int) - 1).toNat = ii - 1 := by omega
        have i5 : (0 : Int) < (ii : Int) := by omega
        generalize (itD l (ii - 1)).1 = y at *
        generalize itD l ii = x at *
        obtain ⟨xk, xv⟩ := x
        dsimp only at *
        clear hRr hxl hok hnew he i1 k3
        by_cases h1 : xk.length ≤ 2000
        · have h1' : (xk.length : Int) ≤ 2000 := by omega
          by_cases h2 : xv.length ≤ 8000
          · have h2' : (xv.length : Int) ≤ 8000 := by omega
            cases hlx : ltL y xk with
            | true =>
              rw [hlx] at hless HOK
              have HM := Lib.hid (hMT.out (HOK.out.trans (by rw [decide_eq_true ⟨h1, h2⟩]; rfl)))
              clear h1 h2 hlx
              go_wp2
              go_quiet (fail)
              go_wp2
              go_roundw
              case rel => exact ⟨ii + 1, by go_num, by omega, Lib.hid ⟨(HN.out.trans ((Ch.drewN (fun _ => False) _ nq).new.mono HN.out.size)), HM.out⟩⟩
              case measure => simp [intOf]; omega
            | false =>
              rw [hlx] at hless HOK
              have HM := Lib.hid (hMF.out (HOK.out.trans (by rw [Bool.and_false])))
              clear h1 h2 hlx
              go_wp2
              go_quiet (fail)
              go_wp2
              go_ret
              exact ⟨by rw [HM.out]; rfl, (HN.out.trans ((Ch.drewN (fun _ => False) _ nq).new.mono HN.out.size))⟩
          · have h2' : (8000 : Int) < (xv.length : Int) := by omega
            have HM := Lib.hid (hMF.out (HOK.out.trans (by rw [decide_eq_false fun h => h2 h.2]; rfl)))
            clear h1 h2
            go_wp2
            go_ret
            exact ⟨by rw [HM.out]; rfl, HN.out⟩
        · have h1' : (2000 : Int) < (xk.length : Int) := by omega
          have HM := Lib.hid (hMF.out (HOK.out.trans (by rw [decide_eq_false fun h => h1 h.1]; rfl)))
          clear h1
          go_wp2
          go_ret
          exact ⟨by rw [HM.out]; rfl, HN.out⟩
    · have hlt' : (l.length : Int) ≤ (ii : Int) := by omega
      have e : ii = l.length := by omega
      subst e
      have HM : Hid (mapOk l = true) := Lib.hid HB.out.2
      go_wp2
      go_ret
      exact ⟨by rw [HM.out]; rfl, HB.out.1⟩
end Go.Proofs.YtfjlkphpeneahaaDoor
namespace Go.Proofs.YtfjlkphpeneahaaDoor
open Go Go.RowKit

/-- What reading items makes of the text that is left, behind those that were read. -/
theorem rdItems_step {n : Nat} {s : Bs} {x : It} {r : Bs} (h : rdItem s = some (x, r)) : rdItems (n + 1) s = (rdItems n r).map fun q => (x :: q.1, q.2) := by
  have : rdItems (n + 1) s = (rdItem s).bind fun p => (rdItems n p.2).map fun q => (p.1 :: q.1, q.2) := rfl
  rw [this, h]; rfl
theorem rdItems_none {n : Nat} {s : Bs} (h : rdItem s = none) : rdItems (n + 1) s = none := by
  unfold rdItems
  rw [h]; rfl
theorem rdText_len {s : Bs} {t r : Bs} (h : rdText s = some (t, r)) : t.length + r.length + 2 = s.length ∧ t.length ≤ 65535 := by
  unfold rdText at h
  split at h
  · rename_i a b q
    split at h
    · rename_i hl
      cases h
      have := a.toNat_lt
      have := b.toNat_lt
      simp only [List.length_take, List.length_drop, List.length_cons]
      omega
    · cases h
  · cases h
theorem rdText_nil : rdText [] = none := rfl
theorem item_ok {s k r v r2 : Bs} (h1 : rdText s = some (k, r)) (h2 : rdText r = some (v, r2)) : rdItem s = some ((k, v), r2) := by
  unfold rdItem; rw [h1, Option.bind_some]; show Option.map _ (rdText r) = _; rw [h2]; rfl
theorem item_no1 {s : Bs} (h1 : rdText s = none) : rdItem s = none := by unfold rdItem; rw [h1]; rfl
theorem item_no2 {s k r : Bs} (h1 : rdText s = some (k, r)) (h2 : rdText r = none) : rdItem s = none := by
  unfold rdItem; rw [h1, Option.bind_some]; show Option.map _ (rdText r) = _; rw [h2]; rfl
theorem make_pairs (w : World) (c : Nat) (hc : c ≤ 1000000) : ∃ w', (Instr.makeSlice 30 (.int .i64 (c : Int)) (.int .i64 (c : Int))).run Tryd.prog w = .ok (.slice (some ⟨w.heap.size, 0, none⟩) c c) w' ∧ OwP w' w.heap.size 52 (.slice (some ⟨w.heap.size, 0, none⟩) c c) (List.replicate c ([], [])) ∧ Below w.heap.size w w' := by
  obtain ⟨i0, hi, hz0, hz1, hz2⟩ := info_parts Tryd.info52
  obtain ⟨wm, h1, h2, h3⟩ := run_makeSlice_full (P := Tryd.prog) w w.heap.size 30 52 i0 _ 2 Tryd.underlying30 hi hz0 hz1 .i64 .i64 c (by omega) (by rw [hz2]; omega) (by unfold maxLen; omega) (Nat.le_refl _)
  refine ⟨wm, h1, ?_, (Ch.of_grown (S := fun _ => False) h3 (fun k hk => by cases hk)).new⟩
  unfold OwP
  rw [List.length_replicate]
  have e : cellsI (List.replicate c ([], [])) = (madeCells (Value.cells (.agg #[.string ByteArray.empty, .string ByteArray.empty])) (c * 2)).toList := by
    have h1 : ∀ y ∈ cellsI (List.replicate c ([], [])), y = .string ByteArray.empty := fun y hy => by
      obtain ⟨p, hp, hq⟩ := List.mem_flatMap.1 hy
      rw [List.eq_of_mem_replicate hp] at hq
      simp only [List.mem_cons, List.not_mem_nil, or_false, or_self] at hq
      rw [hq]; rfl
    have h2 : ∀ y ∈ (madeCells (Value.cells (.agg #[.string ByteArray.empty, .string ByteArray.empty])) (c * 2)).toList, y = .string ByteArray.empty := fun y hy => by
      unfold madeCells at hy
      rw [Array.toList_map, List.mem_map] at hy
      obtain ⟨i, _, rfl⟩ := hy
      have : i % 2 = 0 ∨ i % 2 = 1 := by omega
      show #[Value.string ByteArray.empty, Value.string ByteArray.empty][i % 2]! = _
      rcases this with h | h <;> rw [h] <;> rfl
    rw [List.eq_replicate_of_mem h1, List.eq_replicate_of_mem h2, cellsI_length, List.length_replicate, Array.length_toList, size_madeCells]
  rw [e]
  exact h2
theorem OwP.fr {w : World} {base g : Nat} {e : TypeId} {n c : Nat} {xs : List It} (h : OwP w base e (.slice (some ⟨g, 0, none⟩) n c) xs) (j : Nat) : w.frozen? ⟨g, j, none⟩ = false := by
  rcases h.2 with ⟨hv, h0⟩ | ⟨g', cap, cur, hv, hb, hg, hnc, hcm, hcs, ht⟩
  · cases hv
  · cases hv
    exact frozen_of_row _ _ _ _ _ hg
theorem cellsI_set (xs : List It) (i : Nat) (x : It) (h : i < xs.length) : cellsI (xs.set i x) = ((cellsI xs).set (i * 2) (.string (txt x.1))).set (i * 2 + 1) (.string (txt x.2)) := by
  induction xs generalizing i with
  | nil => simp at h
  | cons p xs ih =>
    have e : ∀ (q : It) (l : List It), cellsI (q :: l) = .string (txt q.1) :: .string (txt q.2) :: cellsI l := fun _ _ => rfl
    cases i with
    | zero => rw [List.set_cons_zero, e, e]; rfl
    | succ i =>
      rw [List.set_cons_succ, e, e, ih i (by simpa using h), show (i + 1) * 2 = i * 2 + 1 + 1 by omega]
      rfl
theorem OwP.stored {w : World} {base g : Nat} {e : TypeId} {n c : Nat} {xs : List It} (h : OwP w base e (.slice (some ⟨g, 0, none⟩) n c) xs) {i : Nat} (hi : i < xs.length) (x : It) :
    OwP ((w.setCell ⟨g, i * 2, none⟩ (.string (txt x.1))).setCell ⟨g, i * 2 + 1, none⟩ (.string (txt x.2))) base e (.slice (some ⟨g, 0, none⟩) n c) (xs.set i x) ∧ Ch (fun k => k = g) w ((w.setCell ⟨g, i * 2, none⟩ (.string (txt x.1))).setCell ⟨g, i * 2 + 1, none⟩ (.string (txt x.2))) := by
  have hn : n = xs.length := by
    rcases h.2 with ⟨hv, h0⟩ | ⟨g', cap, cur, hv, _⟩
    · cases hv
    · cases hv; rfl
  subst hn
  have h1 := World.ownsRow.stored h (i * 2) (.string (txt x.1))
  have h2 := World.ownsRow.stored h1.1 (i * 2 + 1) (.string (txt x.2))
  refine ⟨?_, (Ch.of_grown h1.2 fun k hk => by cases hk; rfl).tr (Ch.of_grown h2.2 fun k hk => by cases hk; rfl)⟩
  unfold OwP
  rw [List.length_set, cellsI_set _ _ _ hi]
  exact h2.1
theorem set_mid (done : List It) (k : Nat) (x : It) : (done ++ List.replicate (k + 1) (([], []) : It)).set done.length x = (done ++ [x]) ++ List.replicate k ([], []) := by
  rw [List.set_append_right _ _ (Nat.le_refl _), Nat.sub_self, List.replicate_succ, List.set_cons_zero, List.append_assoc]
  rfl
/-- What readItems answers. -/
def ItemsPost (w w' : World) (o : Option (List It × Bs)) (e : Ending) : Prop :=
  match o with
  | none => e = .returned (.tuple #[.slice none 0 0, .bool false])
  | some (l, r) => ∃ a c, e = .returned (.tuple #[.slice a l.length c, .bool (decide (r = []))]) ∧ RdP w' a l ∧ l.length ≤ c ∧ ∀ ad, a = some ad → w.heap.size ≤ ad.block
theorem rdItems_len : ∀ (n : Nat) (s : Bs) {l : List It} {r : Bs}, rdItems n s = some (l, r) → l.length = n
  | 0, s, l, r, h => by cases h; rfl
  | n + 1, s, l, r, h => by
    have e : rdItems (n + 1) s = (rdItem s).bind fun p => (rdItems n p.2).map fun q => (p.1 :: q.1, q.2) := rfl
    rw [e] at h
    cases h1 : rdItem s with
    | none => rw [h1] at h; cases h
    | some p =>
      rw [h1, Option.bind_some] at h
      cases h2 : rdItems n p.2 with
      | none => rw [h2] at h; cases h
      | some q =>
        obtain ⟨q1, q2⟩ := q
        rw [h2] at h
        cases h
        simp [rdItems_len n _ h2]
theorem eql_empty (s : Bs) : binOp .eql 9 (.string (txt s)) (.string ⟨#[]⟩) = pure (.bool (decide (s = []))) := by
  have : ((txt s).toList == (ByteArray.mk #[]).toList) = decide (s = []) := txt_eq s []
  rw [← this]
  simp [binOp, Op.stringOp]
set_option maxRecDepth 100000 in
set_option maxHeartbeats 4000000 in
theorem readItems_any (n : Nat) (hn : n ≤ 1000) (s : Bs) (hs : s.length ≤ 100000000) (w : World) :
    Calls Tryd.prog 80 #[.string (txt s), .int .i64 (n : Int)] w fun e w' => ItemsPost w w' (rdItems n s) e ∧ Below w.heap.size w w' := by
  have hn' : (n : Int) ≤ 1000 := by omega
  obtain ⟨wm, hmk, hO, hbm⟩ := make_pairs w n (by omega)
  have HO := Lib.hid (And.intro hO hbm)
  clear hO hbm
  generalize hg : w.heap.size = g at *
  go_enter Tryd.func80, Tryd.ntmps80
  go_wp2
  go_loopw [0, 7, 8, 9, 10, 15] (fun t _ _ _ _ i wr => ∃ (ii : Nat) (r : Bs) (done : List It), i = .int .i64 (ii : Int) ∧ t = .string (txt r) ∧ ii ≤ n ∧ Hid (done.length = ii ∧ r.length ≤ s.length ∧ OwP wr g 52 (.slice (some ⟨g, 0, none⟩) n n) (done ++ List.replicate (n - ii) ([], [])) ∧ Below g w wr ∧ rdItems n s = (rdItems (n - ii) r).map fun q => (done ++ q.1, q.2))) (fun _ _ _ _ _ i _ => n - (intOf i).toNat)
  case atStart => exact ⟨0, s, [], rfl, rfl, Nat.zero_le _, Lib.hid ⟨rfl, Nat.le_refl _, HO.out.1, HO.out.2, by simp⟩⟩
  case round =>
    obtain ⟨ii, r, done, rfl, rfl, hi, HI⟩ := hrel
    by_cases hlt : ii < n
    · have hlt' : (ii : Int) < (n : Int) := by omega
      have hi0 : (0 : Int) ≤ (ii : Int) := by omega
      have P1 := Lib.hid (fun W => readText_any r (by have := HI.out.2.1; omega) W)
      have hni : n - ii = (n - (ii + 1)) + 1 := by omega
      have HB : Hid (∀ V V', Below wr.heap.size wr V → Below V.heap.size V V' → Below g w V') := Lib.hid fun V V' h1 h2 => HI.out.2.2.2.1.trans ((h1.trans (h2.mono h1.size)).mono (by have := HI.out.2.2.2.1.size; omega))
      cases h1 : rdText r with
      | none =>
        rw [h1] at P1
        have P2 : Hid (∀ W, Calls Tryd.prog 93 #[.string ⟨#[]⟩] W fun e w' => e = .returned (rtV none) ∧ Below W.heap.size W w') := Lib.hid fun W => readText_any [] (by simp) W
        have HE : Hid (rdItems n s = none) := Lib.hid (by rw [HI.out.2.2.2.2, hni, rdItems_none (item_no1 h1)]; rfl)
        unfold rtV at P1 P2
        dsimp only at P1 P2
        clear h1 hni
        generalize txt r = tr at *
        go_wp2_with (first
          | (go_at_call 93; (with_reducible refine (P1.out _).mono ?_); rintro e w1 ⟨rfl, hb1⟩)
          | (go_at_call 93; (with_reducible refine (P2.out _).mono ?_); rintro e w2 ⟨rfl, hb2⟩))
        go_ret2
        exact ⟨by rw [HE.out]; rfl, HB.out _ _ hb1 hb2⟩
      | some p =>
        obtain ⟨k, r1⟩ := p
        rw [h1] at P1
        have hl1 := rdText_len h1
        have P2 := Lib.hid (fun W => readText_any r1 (by have := HI.out.2.1; omega) W)
        cases h2 : rdText r1 with
        | none =>
          rw [h2] at P2
          have HE : Hid (rdItems n s = none) := Lib.hid (by rw [HI.out.2.2.2.2, hni, rdItems_none (item_no2 h1 h2)]; rfl)
          unfold rtV at P1 P2
          dsimp only at P1 P2
          clear h1 h2 hni hl1
          generalize txt r = tr at *
          generalize txt r1 = tr1 at *
          generalize txt k = tk at *
          go_wp2_with (first
            | (go_at_call 93; (with_reducible refine (P1.out _).mono ?_); rintro e w1 ⟨rfl, hb1⟩)
            | (go_at_call 93; (with_reducible refine (P2.out _).mono ?_); rintro e w2 ⟨rfl, hb2⟩))
          go_ret2
          exact ⟨by rw [HE.out]; rfl, HB.out _ _ hb1 hb2⟩
        | some p =>
          obtain ⟨v, r2⟩ := p
          rw [h2] at P2
          have hl2 := rdText_len h2
          have HE : Hid (rdItems n s = (rdItems (n - (ii + 1)) r2).map fun q => ((done ++ [(k, v)]) ++ q.1, q.2)) := Lib.hid (by
            rw [HI.out.2.2.2.2, hni, rdItems_step (item_ok h1 h2), Option.map_map]
            congr 1
            funext q
            simp)
          have HL : Hid (r2.length ≤ s.length ∧ done.length = ii) := Lib.hid ⟨by have := HI.out.2.1; omega, HI.out.1⟩
          have HC : Hid (∀ V, Below g w V ∧ Below wr.heap.size wr V → V.frozen? ⟨g, ii * 2, none⟩ = false ∧ V.frozen? ⟨g, ii * 2 + 1, none⟩ = false ∧ V.cell? ⟨g, ii * 2, none⟩ = some (.string ⟨#[]⟩) ∧ V.cell? ⟨g, ii * 2 + 1, none⟩ = some (.string ⟨#[]⟩) ∧ OwP ((V.setCell ⟨g, ii * 2, none⟩ (.string (txt k))).setCell ⟨g, ii * 2 + 1, none⟩ (.string (txt v))) g 52 (.slice (some ⟨g, 0, none⟩) n n) ((done ++ [(k, v)]) ++ List.replicate (n - (ii + 1)) ([], [])) ∧ Below g w ((V.setCell ⟨g, ii * 2, none⟩ (.string (txt k))).setCell ⟨g, ii * 2 + 1, none⟩ (.string (txt v)))) := Lib.hid fun V hV => by
            have hO := HI.out.2.2.1.new hV.2
            have hd := HI.out.1
            have hlen : ii < (done ++ List.replicate (n - ii) (([], []) : It)).length := by simp; omega
            obtain ⟨a, cap, hv, hrd, _⟩ := hO.rd
            obtain ⟨b, off, ha, c1, c2⟩ := hrd ii hlen
            injection hv with hv1 hv2 hv3
            rw [← hv1] at ha
            injection ha with ha
            injection ha with hb ho
            subst hb; subst ho
            have hit : itD (done ++ List.replicate (n - ii) (([], []) : It)) ii = ([], []) := by
              unfold itD
              rw [List.getD_eq_getElem?_getD, List.getElem?_append_right (by omega), hd, Nat.sub_self, hni, List.replicate_succ]
              rfl
            rw [hit, Nat.zero_add] at c1 c2
            have hst := hO.stored hlen (k, v)
            have hset : (done ++ List.replicate (n - ii) (([], []) : It)).set ii (k, v) = (done ++ [(k, v)]) ++ List.replicate (n - (ii + 1)) ([], []) := by
              rw [hni, ← hd]; exact set_mid done _ _
            rw [hset] at hst
            exact ⟨hO.fr _, hO.fr _, c1, c2, hst.1, hV.1.trans (hst.2.below (by have := hV.1.size; omega) fun j hj e => by omega)⟩
          have HV : Hid (∀ V V', Below wr.heap.size wr V → Below V.heap.size V V' → Below g w V' ∧ Below wr.heap.size wr V') := Lib.hid fun V V' h1 h2 => ⟨HB.out _ _ h1 h2, h1.trans (h2.mono h1.size)⟩
          unfold rtV at P1 P2
          dsimp only at P1 P2
          clear h1 h2 hni hl1 hl2
          generalize txt r = tr at *
          generalize txt r1 = tr1 at *
          generalize txt k = tk at *
          generalize txt v = tv at *
          go_wp2_with (first
            | (go_at_call 93; (with_reducible refine (P1.out _).mono ?_); rintro e w1 ⟨rfl, hb1⟩)
            | (go_at_call 93; (with_reducible refine (P2.out _).mono ?_); rintro e w2 ⟨rfl, hb2⟩; obtain ⟨f1, f2, c1, c2, ho, hbw⟩ := HC.out _ (HV.out _ _ hb1 hb2)))
          go_roundw
          case rel => exact ⟨ii + 1, r2, done ++ [(k, v)], by go_num, rfl, by omega, Lib.hid ⟨by rw [List.length_append, HL.out.2]; rfl, HL.out.1, ho, hbw, HE.out⟩⟩
          case measure => simp [intOf]; omega
    · have hlt' : (n : Int) ≤ (ii : Int) := by omega
      have e : ii = n := by omega
      subst e
      have he := eql_empty r
      have HE : Hid (rdItems ii s = some (done, r)) := Lib.hid (by rw [HI.out.2.2.2.2, Nat.sub_self]; simp [rdItems])
      generalize txt r = tr at *
      go_wp2
      go_ret2
      rw [HE.out]
      have hd := HI.out.1
      have hO := HI.out.2.2.1
      rw [Nat.sub_self, List.replicate_zero, List.append_nil] at hO
      obtain ⟨a, cap, hv, hrd, hcap, _, had, _⟩ := hO.rd
      injection hv with hv1 hv2 hv3
      refine ⟨⟨some ⟨g, 0, none⟩, ii, ?_, hv1 ▸ hrd, by omega, fun ad h => by cases h; show w.heap.size ≤ g; omega⟩, HI.out.2.2.2.1⟩
      rw [hd]; rfl
end Go.Proofs.YtfjlkphpeneahaaDoor
