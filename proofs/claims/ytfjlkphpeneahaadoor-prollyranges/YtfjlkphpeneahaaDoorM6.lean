/- The walk of a node's right. The walk of readNode. The walk of getNode: a node by its fingerprint. The walk of from: the items whose keys are not below a key. The walk of standsBelow. The walk of getBelow. -/
import Derived.Test.YtfjlkphpeneahaaDoorM1
import Derived.Test.YtfjlkphpeneahaaDoorM2
import Derived.BigQuiet
import Derived.Test.YtfjlkphpeneahaaDoorM5
import Derived.Deep.RegionHeld3
import Derived.Test.YtfjlkphpeneahaaDoorTBytes
import Derived.BigRegion
namespace Go.Proofs.YtfjlkphpeneahaaDoor
open Go Go.RowKit

theorem toldV_ok (x : It) : ∃ (s : ByteArray) (n : Int), toldV x = .tuple #[.string s, .int .i64 n, .bool (toldOk x)] := by
  unfold toldV
  cases h : toldOk x
  · exact ⟨_, _, rfl⟩
  · exact ⟨_, _, rfl⟩
set_option maxRecDepth 100000 in
set_option maxHeartbeats 1000000 in
theorem right_any {w : World} (lev : Nat) {a : Option Addr} {l : List It} {c : Nat} (hR : RdP w a l) (hl : l.length ≤ 1000) (hx : ∀ x ∈ l, x.1.length ≤ 1000000 ∧ x.2.length ≤ 1000000) :
    Calls Tryd.prog 81 #[nodeV lev a l.length c] w fun e w' => e = .returned (.bool (rightL lev l)) ∧ Below w.heap.size w w' := by
  have hl' : (l.length : Int) ≤ 1000 := by omega
  have hb0 : Below w.heap.size w (w.alloc (.cells #[.int .i64 (lev : Int), .slice a l.length c] 102)) := (Below.refl _ _).alloc (Nat.le_refl _) _
  have hr0 := heap_alloc_new w (.cells #[.int .i64 (lev : Int), .slice a l.length c] 102)
  have HC : Hid (∀ V, Below (w.alloc (.cells #[.int .i64 (lev : Int), .slice a l.length c] 102)).heap.size (w.alloc (.cells #[.int .i64 (lev : Int), .slice a l.length c] 102)) V → V.cell? ⟨w.heap.size, 0, none⟩ = some (.int .i64 (lev : Int)) ∧ V.cell? ⟨w.heap.size, 1, none⟩ = some (.slice a l.length c)) := Lib.hid fun V hV => by
    have h1 := (hV.block w.heap.size (by simp)).trans hr0
    exact ⟨cell_of_row _ _ 0 _ _ _ h1, cell_of_row _ _ 1 _ _ _ h1⟩
  obtain ⟨c0, c1⟩ := HC.out _ (Below.refl _ _)
  have P := Lib.hid (mayMap_any (hR.new hb0) (c := c) (by omega) hx)
  have HR := Lib.hid (And.intro (hR.new hb0) hx)
  clear hR hx hr0
  unfold nodeV
  have HD : Hid (rightL lev l = (mapOk l && (lev == 0 || (decide (l ≠ []) && l.all toldOk)))) := Lib.hid rfl
  cases hm : mapOk l with
  | false =>
    rw [hm] at P HD
    have HT : Hid (rightL lev l = false) := Lib.hid HD.out
    clear hm HD
    go_enter Tryd.func81, Tryd.ntmps81
    go_wp2_with (go_at_call 26; (with_reducible refine P.out.mono ?_); rintro e w1 ⟨rfl, hb1⟩)
    go_ret
    exact ⟨by rw [HT.out]; rfl, hb0.trans (hb1.mono hb0.size)⟩
  | true =>
    rw [hm] at P HD
    clear hm
    by_cases h0 : lev = 0
    · have HT : Hid (rightL lev l = true) := Lib.hid (by rw [HD.out, h0]; rfl)
      have ez : (lev : Int) = 0 := by omega
      rw [ez] at c0 c1 hb0 P HC ⊢
      clear ez h0 HR HD
      go_enter Tryd.func81, Tryd.ntmps81
      go_wp2_with (go_at_call 26; (with_reducible refine P.out.mono ?_); rintro e w1 ⟨rfl, hb1⟩; obtain ⟨d0, d1⟩ := HC.out _ hb1)
      go_ret
      exact ⟨by rw [HT.out]; rfl, hb0.trans (hb1.mono hb0.size)⟩
    · have hq : ((lev : Int) == 0) = false := by rw [beq_eq_false_iff_ne]; omega
      have hq2 : ¬ (lev : Int) = 0 := by omega
      have HT : Hid (rightL lev l = (decide (l ≠ []) && l.all toldOk)) := Lib.hid (by rw [HD.out, show (lev == 0) = false by rw [beq_eq_false_iff_ne]; exact h0]; rfl)
      clear h0 HD
      go_enter Tryd.func81, Tryd.ntmps81
      go_wp2_with (go_at_call 26; (with_reducible refine P.out.mono ?_); rintro e w1 ⟨rfl, hb1⟩; obtain ⟨d0, d1⟩ := HC.out _ hb1)
      have HW := Lib.hid (And.intro (hb0.trans (hb1.mono hb0.size)) (HR.out.1.new hb1))
      have HC2 : Hid (∀ V, Below w1.heap.size w1 V → V.cell? ⟨w.heap.size, 1, none⟩ = some (.slice a l.length c)) := Lib.hid fun V hV => (Ch.of_new (S := fun _ => False) hV).cell d1 id
      clear c0 c1 d0 d1 hb1 hb0 HC P
      go_loopw [4, 5, 6, 7, 18] (fun _ _ _ _ i wr => ∃ ii : Nat, i = .int .i64 (ii : Int) ∧ ii ≤ l.length ∧ Hid (Below w1.heap.size w1 wr ∧ ∀ j, j < ii → toldOk (itD l j) = true)) (fun _ _ _ _ i _ => l.length - (intOf i).toNat)
      case atStart => exact ⟨0, rfl, Nat.zero_le _, Lib.hid ⟨Below.refl _ _, fun j hj => by omega⟩⟩
      case round =>
        obtain ⟨ii, rfl, hi, HB⟩ := hrel
        by_cases hlt : ii < l.length
        · have hlt' : (ii : Int) < (l.length : Int) := by omega
          have hi0 : (0 : Int) ≤ (ii : Int) := by omega
          obtain ⟨b, off, rfl, k1, k2⟩ := (HW.out.2.new HB.out.1) ii hlt
          have P := Lib.hid (fun W => told_any (itD l ii) (HR.out.2 _ (itD_mem hlt)).2 W)
          have hF : Hid (toldOk (itD l ii) = false → (decide (l ≠ []) && l.all toldOk) = false) := Lib.hid fun h => by
            rw [Bool.and_eq_false_iff]; right
            rw [List.all_eq_false]
            exact ⟨_, itD_mem hlt, by rw [h]; simp⟩
          have hS : Hid (toldOk (itD l ii) = true → ∀ j, j < ii + 1 → toldOk (itD l j) = true) := Lib.hid fun h j hj => by
            by_cases e : j = ii
            · rw [e]; exact h
            · exact HB.out.2 j (by omega)
          obtain ⟨s, n, hv⟩ := toldV_ok (itD l ii)
          rw [hv] at P
          unfold iv at P
          clear hv
          cases ht : toldOk (itD l ii) with
          | true =>
            rw [ht] at P
            have HS := Lib.hid (hS.out ht)
            clear ht hF hS
            generalize itD l ii = x at *
            obtain ⟨xk, xv⟩ := x
            dsimp only at k1 k2 P
            go_wp2_with (go_at_call 30; (with_reducible refine (P.out _).mono ?_); rintro e w2 ⟨rfl, hb2⟩)
            go_roundw
            case rel => exact ⟨ii + 1, by go_num, by omega, Lib.hid ⟨(HB.out.1.trans (((Below.refl wr.heap.size wr).alloc (Nat.le_refl _) _).mono HB.out.1.size)).trans (hb2.mono (by have := HB.out.1.size; simp; omega)), HS.out⟩⟩
            case measure => simp [intOf]; omega
          | false =>
            rw [ht] at P
            have HS := Lib.hid (hF.out ht)
            clear ht hF hS
            generalize itD l ii = x at *
            obtain ⟨xk, xv⟩ := x
            dsimp only at k1 k2 P
            go_wp2_with (go_at_call 30; (with_reducible refine (P.out _).mono ?_); rintro e w2 ⟨rfl, hb2⟩)
            go_ret
            refine ⟨by rw [HT.out, HS.out]; rfl, HW.out.1.trans (((HB.out.1.trans (((Below.refl wr.heap.size wr).alloc (Nat.le_refl _) _).mono HB.out.1.size)).trans (hb2.mono (by have := HB.out.1.size; simp; omega))).mono HW.out.1.size)⟩
        · have hlt' : (l.length : Int) ≤ (ii : Int) := by omega
          have HA : Hid ((decide (l ≠ []) && l.all toldOk) = decide (0 < l.length)) := Lib.hid (by
            have ha : l.all toldOk = true := List.all_eq_true.2 fun x hx => by
              obtain ⟨j, hj, rfl⟩ := List.getElem_of_mem hx
              have := HB.out.2 j (by omega)
              rwa [itD_at hj] at this
            rw [ha, Bool.and_true]
            refine decide_eq_decide.2 ⟨fun h => by have := List.length_pos_iff.2 h; omega, fun h => List.length_pos_iff.1 (by omega)⟩)
          have k1 := HC2.out _ HB.out.1
          go_wp2
          go_ret
          exact ⟨by rw [HT.out, HA.out]; rfl, HW.out.1.trans (HB.out.1.mono HW.out.1.size)⟩
end Go.Proofs.YtfjlkphpeneahaaDoor
namespace Go.Proofs.YtfjlkphpeneahaaDoor
open Go Go.RowKit

def noNode : Value := .agg #[.int .i64 0, .slice none 0 0]
/-- What readNode answers. -/
def NodePost (n0 : Nat) (w' : World) (o : Option (Nat × List It)) (e : Ending) : Prop :=
  match o with
  | none => e = .returned (.tuple #[noNode, .bool false])
  | some (lev, l) => ∃ a c, e = .returned (.tuple #[nodeV lev a l.length c, .bool true]) ∧ RdP w' a l ∧ l.length ≤ c ∧ ∀ ad, a = some ad → n0 ≤ ad.block
theorem rdItems_small : ∀ (n : Nat) (s : Bs) {l : List It} {r : Bs}, rdItems n s = some (l, r) → ∀ x ∈ l, x.1.length ≤ 65535 ∧ x.2.length ≤ 65535
  | 0, s, l, r, h, x, hx => by cases h; cases hx
  | n + 1, s, l, r, h, x, hx => by
    have e : rdItems (n + 1) s = (rdItem s).bind fun p => (rdItems n p.2).map fun q => (p.1 :: q.1, q.2) := rfl
    rw [e] at h
    cases h1 : rdItem s with
    | none => rw [h1] at h; cases h
    | some p =>
      rw [h1, Option.bind_some] at h
      cases h2 : rdItems n p.2 with
      | none => rw [h2] at h; cases h
      | some q =>
        obtain ⟨q1, q2⟩ := q
        rw [h2] at h
        cases h
        rcases List.mem_cons.1 hx with rfl | hx
        · unfold rdItem at h1
          cases h3 : rdText s with
          | none => rw [h3] at h1; cases h1
          | some t =>
            obtain ⟨t1, t2⟩ := t
            rw [h3, Option.bind_some] at h1
            cases h4 : rdText t2 with
            | none => rw [show (t1, t2).2 = t2 from rfl, h4] at h1; cases h1
            | some u =>
              obtain ⟨u1, u2⟩ := u
              rw [show (t1, t2).2 = t2 from rfl, h4] at h1
              cases h1
              exact ⟨(rdText_len h3).2, (rdText_len h4).2⟩
        · exact rdItems_small n _ h2 x hx
theorem parseL_cons (a b c : UInt8) (r : Bs) : parseL (a :: b :: c :: r) = if a = 80 ∧ b.toNat ≤ 32 ∧ c.toNat ≤ 16 then (rdItems c.toNat r).bind fun p => if p.2 = [] ∧ rightL b.toNat p.1 = true then some (b.toNat, p.1) else none else none := rfl
theorem heap_put2 {V : World} {g : Nat} {e : TypeId} {p q x y : Value} (h : V.heap[g]? = some (.cells #[p, q] e (0, 0))) : ((V.setCell ⟨g, 0, none⟩ x).setCell ⟨g, 1, none⟩ y).heap[g]? = some (.cells #[x, y] e (0, 0)) :=
  heap_setCell_same _ g 1 _ e _ (heap_setCell_same _ g 0 _ e _ h)
theorem Ch.put2 (V : World) (g : Nat) (x y : Value) : Ch (fun k => k = g) V ((V.setCell ⟨g, 0, none⟩ x).setCell ⟨g, 1, none⟩ y) :=
  Ch.tr (B := V.setCell ⟨g, 0, none⟩ x) (Ch.setCell (S := fun k => k = g) V ⟨g, 0, none⟩ _ fun _ => rfl) (Ch.setCell (S := fun k => k = g) _ ⟨g, 1, none⟩ _ fun _ => rfl)
def zrow : Obj := .cells #[.int .i64 0, .slice none 0 0] 102
set_option maxRecDepth 100000 in
set_option maxHeartbeats 8000000 in
theorem readNode_any (s : Bs) (hs : s.length ≤ 100000000) (w : World) :
    Calls Tryd.prog 50 #[.string (txt s)] w fun e w' => NodePost w.heap.size w' (parseL s) e ∧ Below w.heap.size w w' := by
  have hb0 : Below w.heap.size w (w.alloc (.cells #[.int .i64 0, .slice none 0 0] 102)) := (Below.refl _ _).alloc (Nat.le_refl _) _
  have hr0 := heap_alloc_new w (.cells #[.int .i64 0, .slice none 0 0] 102)
  have hsz : (w.alloc (.cells #[.int .i64 0, .slice none 0 0] 102)).heap.size = w.heap.size + 1 := by simp
  have HC : Hid (∀ V, Below (w.heap.size + 1) (w.alloc (.cells #[.int .i64 0, .slice none 0 0] 102)) V → V.heap[w.heap.size]? = some (.cells #[.int .i64 0, .slice none 0 0] 102 (0, 0)) ∧ V.cell? ⟨w.heap.size, 0, none⟩ = some (.int .i64 0) ∧ V.cell? ⟨w.heap.size, 1, none⟩ = some (.slice none 0 0) ∧ V.frozen? ⟨w.heap.size, 0, none⟩ = false ∧ V.frozen? ⟨w.heap.size, 1, none⟩ = false ∧ Below w.heap.size w V) := Lib.hid fun V hV => by
    have h1 := (hV.block w.heap.size (by omega)).trans hr0
    exact ⟨h1, cell_of_row _ _ 0 _ _ _ h1, cell_of_row _ _ 1 _ _ _ h1, frozen_of_row _ _ _ _ _ h1, frozen_of_row _ _ _ _ _ h1, hb0.trans (hV.mono (by omega))⟩
  have HF : Hid (∀ V, Below (w.heap.size + 1) (w.alloc (.cells #[.int .i64 0, .slice none 0 0] 102)) V → parseL s = none → NodePost w.heap.size V (parseL s) (.returned (.tuple #[.agg #[.int .i64 0, .slice none 0 0], .bool false])) ∧ Below w.heap.size w V) := Lib.hid fun V hV h => ⟨by rw [h]; rfl, (HC.out V hV).2.2.2.2.2⟩
  obtain ⟨-, c0, c1, f0, f1, -⟩ := HC.out _ (Below.refl _ _)
  have hzs := txt_size s
  clear hb0 hr0
  by_cases h3 : s.length < 3
  · have h3' : (s.length : Int) < 3 := by omega
    have HP : Hid (parseL s = none) := Lib.hid (by
      match s, h3 with
      | [], _ => rfl
      | [_], _ => rfl
      | [_, _], _ => rfl)
    clear h3
    generalize txt s = t at *
    go_enter Tryd.func50, Tryd.ntmps50
    go_wp2
    refine bodyPost_ret (ret_node rfl _ _ w.heap.size _ _ rfl c0 c1) rfl ?_
    exact HF.out _ (Below.refl _ _) HP.out
  obtain ⟨a, b, c, r, rfl⟩ : ∃ a b c r, s = a :: b :: c :: r := by
    match s, h3 with
    | [], h => exact absurd (by simp) h
    | [_], h => exact absurd (by simp) h
    | [_, _], h => exact absurd (by simp) h
    | a :: b :: c :: r, _ => exact ⟨a, b, c, r, rfl⟩
  have HPL := Lib.hid (parseL_cons a b c r)
  have h3' : (3 : Int) ≤ ((a :: b :: c :: r).length : Int) := by simp; omega
  have e0 : (txt (a :: b :: c :: r))[0]? = some a := get_of_data _ 0 rfl
  have e1 : (txt (a :: b :: c :: r))[1]? = some b := get_of_data _ 1 rfl
  have e2 : (txt (a :: b :: c :: r))[2]? = some c := get_of_data _ 2 rfl
  have r0 := run_index (txt (a :: b :: c :: r)) .i64 0 0 rfl a e0
  have r1 := run_index (txt (a :: b :: c :: r)) .i64 1 1 rfl b e1
  have r2 := run_index (txt (a :: b :: c :: r)) .i64 2 2 rfl c e2
  have hT : (txt (a :: b :: c :: r)).extract 3 (txt (a :: b :: c :: r)).size = txt r := by rw [end_txt]; rfl
  have hrl : r.length ≤ 100000000 := by simp at hs; omega
  have hsl : (a :: b :: c :: r).length = r.length + 3 := by simp
  rw [hsl] at hzs h3'
  rw [hzs] at hT
  clear e0 e1 e2 h3
  generalize parseL (a :: b :: c :: r) = pr at *
  generalize txt (a :: b :: c :: r) = t at *
  clear hs hsl
  by_cases ha : ¬ (a = 80)
  · have hn : ¬ (a.toNat : Int) = 80 := fun h => ha (UInt8.toNat_inj.1 (by show a.toNat = 80; omega))
    have hn2 : ((a.toNat : Int) != 80) = true := by simp; exact hn
    have HP : Hid (pr = none) := Lib.hid (HPL.out.trans (if_neg fun h => ha h.1))
    clear ha HPL
    go_enter Tryd.func50, Tryd.ntmps50
    go_wp2
    refine bodyPost_ret (ret_node rfl _ _ w.heap.size _ _ rfl c0 c1) rfl ?_
    exact HF.out _ (Below.refl _ _) HP.out
  have ha := Decidable.not_not.1 ha
  subst ha
  have ha : (((80 : UInt8).toNat : Nat) : Int) = 80 := rfl
  rw [ha] at r0
  clear ha
  have HD : Hid (∀ q, Below (w.heap.size + 1) (w.alloc (.cells #[.int .i64 0, .slice none 0 0] 102)) ((w.alloc (.cells #[.int .i64 0, .slice none 0 0] 102)).drewN q)) := Lib.hid fun q => (Ch.drewN (fun _ => False) _ q).new.mono (by omega)
  have hb256 := b.toNat_lt
  have hc256 := c.toNat_lt
  have wb : wrap64 (b.toNat : Int) = (b.toNat : Int) := by unfold wrap64; omega
  have wc : wrap64 (c.toNat : Int) = (c.toNat : Int) := by unfold wrap64; omega
  have HZ : Hid (∀ V x y, Below (w.heap.size + 1) (w.alloc (.cells #[.int .i64 0, .slice none 0 0] 102)) V → ((V.setCell ⟨w.heap.size, 0, none⟩ x).setCell ⟨w.heap.size, 1, none⟩ y).cell? ⟨w.heap.size, 0, none⟩ = some x ∧ ((V.setCell ⟨w.heap.size, 0, none⟩ x).setCell ⟨w.heap.size, 1, none⟩ y).cell? ⟨w.heap.size, 1, none⟩ = some y ∧ Below w.heap.size w ((V.setCell ⟨w.heap.size, 0, none⟩ x).setCell ⟨w.heap.size, 1, none⟩ y)) := Lib.hid fun V x y hV => by
    have h1 := heap_put2 (x := x) (y := y) (HC.out V hV).1
    have h2 := (HC.out V hV).2.2.2.2.2
    exact ⟨cell_of_row _ _ 0 _ _ _ h1, cell_of_row _ _ 1 _ _ _ h1, h2.trans ((Ch.put2 V _ x y).below h2.size fun k hk e => by omega)⟩
  have HF2 : Hid (∀ V, pr = none → Below w.heap.size w V → NodePost w.heap.size V pr (.returned (.tuple #[.agg #[.int .i64 0, .slice none 0 0], .bool false])) ∧ Below w.heap.size w V) := Lib.hid fun V h hV => ⟨by rw [h]; rfl, hV⟩
  by_cases hb : ¬ (b.toNat ≤ 32)
  · have hn : (32 : Int) < (b.toNat : Int) := by omega
    have hn2 : decide ((32 : Int) < (b.toNat : Int)) = true := decide_eq_true hn
    have HP : Hid (pr = none) := Lib.hid (HPL.out.trans (if_neg fun h => hb h.2.1))
    clear hb HPL
    generalize b.toNat = bn at *
    generalize c.toNat = cn at *
    go_enter Tryd.func50, Tryd.ntmps50
    go_wp2
    go_big_quiet (fail)
    obtain ⟨-, k0, k1, g0, g1, -⟩ := HC.out _ (HD.out nq)
    obtain ⟨z0, z1, hbz⟩ := HZ.out _ (.int .i64 0) (.slice none 0 0) (HD.out nq)
    go_wp2
    refine bodyPost_ret (ret_node rfl _ _ w.heap.size _ _ rfl z0 z1) rfl ?_
    exact HF2.out _ HP.out hbz
  have hb := Decidable.not_not.1 hb
  have hb' : (b.toNat : Int) ≤ 32 := by omega
  have hb2 : decide ((32 : Int) < (b.toNat : Int)) = false := decide_eq_false (by omega)
  by_cases hc : ¬ (c.toNat ≤ 16)
  · have hn : (16 : Int) < (c.toNat : Int) := by omega
    have hn2 : decide ((16 : Int) < (c.toNat : Int)) = true := decide_eq_true hn
    have HP : Hid (pr = none) := Lib.hid (HPL.out.trans (if_neg fun h => hc h.2.2))
    clear hb hc HPL
    generalize b.toNat = bn at *
    generalize c.toNat = cn at *
    go_enter Tryd.func50, Tryd.ntmps50
    go_wp2
    go_big_quiet (fail)
    obtain ⟨-, k0, k1, g0, g1, -⟩ := HC.out _ (HD.out nq)
    obtain ⟨z0, z1, hbz⟩ := HZ.out _ (.int .i64 0) (.slice none 0 0) (HD.out nq)
    go_wp2
    refine bodyPost_ret (ret_node rfl _ _ w.heap.size _ _ rfl z0 z1) rfl ?_
    exact HF2.out _ HP.out hbz
  have hc := Decidable.not_not.1 hc
  have hc' : (c.toNat : Int) ≤ 16 := by omega
  have hc2 : decide ((16 : Int) < (c.toNat : Int)) = false := decide_eq_false (by omega)
  have HPQ : Hid (pr = (rdItems c.toNat r).bind fun p => if p.2 = [] ∧ rightL b.toNat p.1 = true then some (b.toNat, p.1) else none) := Lib.hid (HPL.out.trans (if_pos ⟨rfl, hb, hc⟩))
  clear HPL
  have PI := Lib.hid (fun W => readItems_any c.toNat (by omega) r hrl W)
  have HL := fun {l : List It} {q : Bs} (h : rdItems c.toNat r = some (l, q)) => And.intro (rdItems_len _ _ h) (rdItems_small _ _ h)
  have HW : Hid (∀ q V, Below ((w.alloc (.cells #[.int .i64 0, .slice none 0 0] 102)).drewN q).heap.size ((w.alloc (.cells #[.int .i64 0, .slice none 0 0] 102)).drewN q) V → Below (w.heap.size + 1) (w.alloc (.cells #[.int .i64 0, .slice none 0 0] 102)) V ∧ ∀ o : Obj, Below (w.heap.size + 1) (w.alloc (.cells #[.int .i64 0, .slice none 0 0] 102)) (V.alloc o)) := Lib.hid fun q V hV => by
    have h1 : Below (w.heap.size + 1) (w.alloc (.cells #[.int .i64 0, .slice none 0 0] 102)) V := (HD.out q).trans (hV.mono (by have := (HD.out q).size; omega))
    exact ⟨h1, fun o => h1.alloc (by have := h1.size; omega) o⟩
  cases hri : rdItems c.toNat r with
  | none =>
    rw [hri] at PI HPQ
    have HP : Hid (pr = none) := Lib.hid HPQ.out
    clear HPQ HL hri hb hc
    generalize b.toNat = bn at *
    generalize c.toNat = cn at *
    go_enter Tryd.func50, Tryd.ntmps50
    go_wp2
    go_big_quiet (fail)
    go_wp2_with (go_at_call 80; (with_reducible refine (PI.out _).mono ?_); rintro e w1 ⟨he, hb1⟩; (have he2 : e = .returned (.tuple #[.slice none 0 0, .bool false]) := he); subst he2; obtain ⟨-, k0, k1, g0, g1, -⟩ := HC.out _ ((HW.out _ _ hb1).2 (.cells #[.int .i64 (bn : Int), .slice none 0 0] 102)); obtain ⟨z0, z1, hbz⟩ := HZ.out _ (.int .i64 0) (.slice none 0 0) ((HW.out _ _ hb1).2 (.cells #[.int .i64 (bn : Int), .slice none 0 0] 102)))
    refine bodyPost_ret (ret_node rfl _ _ w.heap.size _ _ rfl z0 z1) rfl ?_
    exact HF2.out _ HP.out hbz
  | some p =>
    obtain ⟨l, q⟩ := p
    rw [hri] at PI HPQ
    obtain ⟨hll, hls⟩ := HL hri
    have HLL : Hid (l.length ≤ 16 ∧ ∀ x ∈ l, x.1.length ≤ 1000000 ∧ x.2.length ≤ 1000000) := Lib.hid ⟨by omega, fun x hx => by have := hls x hx; omega⟩
    have HSZ := Lib.hid hsz
    clear HL hri hb hc hll hls hsz
    generalize b.toNat = bn at *
    generalize c.toNat = cn at *
    by_cases hq : ¬ (q = [])
    · have HP : Hid (pr = none) := Lib.hid (by rw [HPQ.out]; exact if_neg fun h => hq h.1)
      have PI2 : Hid (∀ W, Calls Tryd.prog 80 #[.string (txt r), .int .i64 (cn : Int)] W fun e w' => ∃ a c', e = .returned (.tuple #[.slice a l.length c', .bool false]) ∧ Below W.heap.size W w') := Lib.hid fun W => (PI.out W).mono (by
        rintro e w' ⟨⟨a, c', he, -⟩, hb⟩
        rw [show decide (q = []) = false from decide_eq_false hq] at he
        exact ⟨a, c', he, hb⟩)
      clear PI hq HPQ
      go_enter Tryd.func50, Tryd.ntmps50
      go_wp2
      go_big_quiet (fail)
      go_wp2_with (go_at_call 80; (with_reducible refine (PI2.out _).mono ?_); rintro e w1 ⟨a1, c1', rfl, hb1⟩; obtain ⟨-, k0, k1, g0, g1, -⟩ := HC.out _ ((HW.out _ _ hb1).2 (.cells #[.int .i64 (bn : Int), .slice a1 l.length c1'] 102)); obtain ⟨z0, z1, hbz⟩ := HZ.out _ (.int .i64 0) (.slice none 0 0) ((HW.out _ _ hb1).2 (.cells #[.int .i64 (bn : Int), .slice a1 l.length c1'] 102)))
      refine bodyPost_ret (ret_node rfl _ _ w.heap.size _ _ rfl z0 z1) rfl ?_
      exact HF2.out _ HP.out hbz
    · have hq := Decidable.not_not.1 hq
      subst hq
      have PI2 : Hid (∀ W, Calls Tryd.prog 80 #[.string (txt r), .int .i64 (cn : Int)] W fun e w' => ∃ a c', e = .returned (.tuple #[.slice a l.length c', .bool true]) ∧ (RdP w' a l ∧ l.length ≤ c' ∧ ∀ ad, a = some ad → W.heap.size ≤ ad.block) ∧ Below W.heap.size W w') := Lib.hid fun W => (PI.out W).mono (by
        rintro e w' ⟨⟨a, c', he, h1, h2, h3⟩, hb⟩
        exact ⟨a, c', he, ⟨h1, h2, h3⟩, hb⟩)
      have P81 : Hid (∀ V a c', RdP V a l → Calls Tryd.prog 81 #[.agg #[.int .i64 (bn : Int), .slice a l.length c']] V fun e w' => e = .returned (.bool (rightL bn l)) ∧ Below V.heap.size V w') := Lib.hid fun V a c' h => right_any bn h (by have := HLL.out.1; omega) HLL.out.2
      clear PI
      cases hR : rightL bn l with
      | false =>
        rw [hR] at P81
        have HP : Hid (pr = none) := Lib.hid (by rw [HPQ.out]; exact if_neg fun h => by rw [hR] at h; cases h.2)
        clear HPQ hR
        go_enter Tryd.func50, Tryd.ntmps50
        go_wp2
        go_big_quiet (fail)
        go_wp2_with (first
          | (go_at_call 80; (with_reducible refine (PI2.out _).mono ?_); rintro e w1 ⟨a1, c1', rfl, ⟨hr1, -, -⟩, hb1⟩; have hr2 := hr1.new ((Below.refl w1.heap.size w1).alloc (Nat.le_refl _) (.cells #[.int .i64 (bn : Int), .slice a1 l.length c1'] 102)); have hb1' := (HW.out _ _ hb1).2 (.cells #[.int .i64 (bn : Int), .slice a1 l.length c1'] 102))
          | (go_at_call 81; (with_reducible refine (P81.out _ _ _ hr2).mono ?_); rintro e w2 ⟨rfl, hb2⟩; have hb3 := hb1'.trans (hb2.mono (by have := hb1'.size; have := HSZ.out; omega)); obtain ⟨-, k0, k1, g0, g1, -⟩ := HC.out _ hb3; obtain ⟨z0, z1, hbz⟩ := HZ.out _ (.int .i64 0) (.slice none 0 0) hb3))
        refine bodyPost_ret (ret_node rfl _ _ w.heap.size _ _ rfl z0 z1) rfl ?_
        exact HF2.out _ HP.out hbz
      | true =>
        rw [hR] at P81
        have HP : Hid (pr = some (bn, l)) := Lib.hid (by rw [HPQ.out]; exact if_pos ⟨rfl, hR⟩)
        clear HPQ hR
        go_enter Tryd.func50, Tryd.ntmps50
        go_wp2
        go_big_quiet (fail)
        go_wp2_with (first
          | (go_at_call 80; (with_reducible refine (PI2.out _).mono ?_); rintro e w1 ⟨a1, c1', rfl, ⟨hr1, hl1, hf1⟩, hb1⟩; have hr2 := hr1.new ((Below.refl w1.heap.size w1).alloc (Nat.le_refl _) (.cells #[.int .i64 (bn : Int), .slice a1 l.length c1'] 102)); have hb1' := (HW.out _ _ hb1).2 (.cells #[.int .i64 (bn : Int), .slice a1 l.length c1'] 102); have hz1 := hb1.size; have hrow := heap_alloc_new w1 (.cells #[.int .i64 (bn : Int), .slice a1 l.length c1'] 102))
          | (go_at_call 81; (with_reducible refine (P81.out _ _ _ hr2).mono ?_); rintro e w2 ⟨rfl, hb2⟩; have hb3 := hb1'.trans (hb2.mono (by have := hb1'.size; have := HSZ.out; omega)); obtain ⟨-, k0, k1, g0, g1, -⟩ := HC.out _ hb3; obtain ⟨z0, z1, hbz⟩ := HZ.out _ (.int .i64 (bn : Int)) (.slice a1 l.length c1') hb3; have hrow2 := (hb2.block w1.heap.size (by simp)).trans hrow; have q0 := cell_of_row _ _ 0 _ _ _ hrow2; have q1 := cell_of_row _ _ 1 _ _ _ hrow2))
        refine bodyPost_ret (ret_node rfl _ _ w.heap.size _ _ rfl z0 z1) rfl ?_
        rw [HP.out]
        have hz0 := HSZ.out
        have hz2 : w.heap.size + 1 ≤ w1.heap.size := by have := (HD.out nq).size; omega
        have hr3 := hr2.new hb2
        exact ⟨⟨a1, c1', rfl, hr3.keep (Ch.put2 _ _ _ _) (fun ad had e => by have := hf1 ad had; simp at this; omega), hl1, fun ad had => by have := hf1 ad had; simp at this; omega⟩, hbz⟩
end Go.Proofs.YtfjlkphpeneahaaDoor
namespace Go.Proofs.YtfjlkphpeneahaaDoor
open Go Go.RowKit Go.Maps
open D4 (put)

/-- A heap as a source. -/
def srcV (h : Nat) : Value := .iface 40 (.pointer (some ⟨h, 0, none⟩))
/-- The node of a fingerprint. -/
def rootP (l : Tx) (p : Bs) : Option (Nat × List It) := (at_ l p).bind parseL
/-- No text of a pile is too long. -/
def Small (l : Tx) : Prop := ∀ q ∈ l, q.2.length ≤ 100000
set_option maxRecDepth 100000 in
set_option maxHeartbeats 1000000 in
theorem getNode_any {w : World} {h base : Nat} {l : Tx} (H : Hp w h base l) (hs : Small l) (p : Bs) (hp : p.length ≤ 1000000) :
    Calls Tryd.prog 51 #[srcV h, .string (txt p)] w fun e w' => NodePost w.heap.size w' (rootP l p) e ∧ Below w.heap.size w w' := by
  have hb0 : Below w.heap.size w (w.alloc (.cells #[.int .i64 0, .slice none 0 0] 102)) := (Below.refl _ _).alloc (Nat.le_refl _) _
  have P := Lib.hid (get_any (H.new hb0) p hp)
  have hm : ∀ V, (method 286 40 (.pointer (some ⟨h, 0, none⟩)) "Get").run Tryd.prog V = .ok (123, .pointer (some ⟨h, 0, none⟩)) V := fun _ => by kernel_rfl
  have hr0 := heap_alloc_new w (.cells #[.int .i64 0, .slice none 0 0] 102)
  have hsz : (w.alloc (.cells #[.int .i64 0, .slice none 0 0] 102)).heap.size = w.heap.size + 1 := by simp
  have HC : Hid (∀ V, Below (w.heap.size + 1) (w.alloc (.cells #[.int .i64 0, .slice none 0 0] 102)) V → V.heap[w.heap.size]? = some (.cells #[.int .i64 0, .slice none 0 0] 102 (0, 0)) ∧ V.cell? ⟨w.heap.size, 0, none⟩ = some (.int .i64 0) ∧ V.cell? ⟨w.heap.size, 1, none⟩ = some (.slice none 0 0) ∧ V.frozen? ⟨w.heap.size, 0, none⟩ = false ∧ V.frozen? ⟨w.heap.size, 1, none⟩ = false ∧ Below w.heap.size w V) := Lib.hid fun V hV => by
    have h1 := (hV.block w.heap.size (by omega)).trans hr0
    exact ⟨h1, cell_of_row _ _ 0 _ _ _ h1, cell_of_row _ _ 1 _ _ _ h1, frozen_of_row _ _ _ _ _ h1, frozen_of_row _ _ _ _ _ h1, hb0.trans (hV.mono (by omega))⟩
  have HZ : Hid (∀ V x y, Below (w.heap.size + 1) (w.alloc (.cells #[.int .i64 0, .slice none 0 0] 102)) V → ((V.setCell ⟨w.heap.size, 0, none⟩ x).setCell ⟨w.heap.size, 1, none⟩ y).cell? ⟨w.heap.size, 0, none⟩ = some x ∧ ((V.setCell ⟨w.heap.size, 0, none⟩ x).setCell ⟨w.heap.size, 1, none⟩ y).cell? ⟨w.heap.size, 1, none⟩ = some y ∧ Below w.heap.size w ((V.setCell ⟨w.heap.size, 0, none⟩ x).setCell ⟨w.heap.size, 1, none⟩ y)) := Lib.hid fun V x y hV => by
    have h1 := heap_put2 (x := x) (y := y) (HC.out V hV).1
    have h2 := (HC.out V hV).2.2.2.2.2
    exact ⟨cell_of_row _ _ 0 _ _ _ h1, cell_of_row _ _ 1 _ _ _ h1, h2.trans ((Ch.put2 V _ x y).below h2.size fun k hk e => by omega)⟩
  have HW : Hid (∀ V, Below (w.alloc (.cells #[.int .i64 0, .slice none 0 0] 102)).heap.size (w.alloc (.cells #[.int .i64 0, .slice none 0 0] 102)) V → Below (w.heap.size + 1) (w.alloc (.cells #[.int .i64 0, .slice none 0 0] 102)) V) := Lib.hid fun V hV => hV.mono (by omega)
  have HSZ := Lib.hid hsz
  unfold srcV
  unfold gotV at P
  have HR : Hid (rootP l p = (at_ l p).bind parseL) := Lib.hid rfl
  have hlook := fun t (h : at_ l p = some t) => hs _ (D4.look_mem h)
  clear H hb0 hr0 hsz
  cases ha : at_ l p with
  | none =>
    rw [ha] at P HR
    have HN : Hid (rootP l p = none) := Lib.hid HR.out
    have P2 : Hid (Calls Tryd.prog 123 #[.pointer (some ⟨h, 0, none⟩), .string (txt p)] (w.alloc (.cells #[.int .i64 0, .slice none 0 0] 102)) fun e w' => e = .returned (.tuple #[.string (txt []), .bool false]) ∧ Below (w.alloc (.cells #[.int .i64 0, .slice none 0 0] 102)).heap.size (w.alloc (.cells #[.int .i64 0, .slice none 0 0] 102)) w') := P
    clear ha P HR hlook
    generalize txt [] = te at *
    go_enter Tryd.func51, Tryd.ntmps51
    go_wp2_with (go_at_call 123; (with_reducible refine P2.out.mono ?_); rintro e w1 ⟨rfl, hb1⟩; obtain ⟨-, k0, k1, g0, g1, -⟩ := HC.out _ (HW.out _ hb1); obtain ⟨z0, z1, hbz⟩ := HZ.out _ (.int .i64 0) (.slice none 0 0) (HW.out _ hb1))
    refine bodyPost_ret (ret_node rfl _ _ w.heap.size _ _ rfl z0 z1) rfl ?_
    exact ⟨by rw [HN.out]; rfl, hbz⟩
  | some t =>
    rw [ha] at P HR
    have hsm := hlook t ha
    have P2 : Hid (Calls Tryd.prog 123 #[.pointer (some ⟨h, 0, none⟩), .string (txt p)] (w.alloc (.cells #[.int .i64 0, .slice none 0 0] 102)) fun e w' => e = .returned (.tuple #[.string (txt t), .bool true]) ∧ Below (w.alloc (.cells #[.int .i64 0, .slice none 0 0] 102)).heap.size (w.alloc (.cells #[.int .i64 0, .slice none 0 0] 102)) w') := P
    have P50 := Lib.hid (fun V => readNode_any t (by have h9 : t.length ≤ 100000 := hsm; omega) V)
    have HN : Hid (rootP l p = parseL t) := Lib.hid HR.out
    clear ha P HR hlook hsm
    cases hp2 : parseL t with
    | none =>
      rw [hp2] at P50 HN
      have P51 : Hid (∀ V, Calls Tryd.prog 50 #[.string (txt t)] V fun e w' => e = .returned (.tuple #[.agg #[.int .i64 0, .slice none 0 0], .bool false]) ∧ Below V.heap.size V w') := P50
      clear hp2 P50
      generalize txt t = tt at *
      go_enter Tryd.func51, Tryd.ntmps51
      go_wp2_with (first
        | (go_at_call 123; (with_reducible refine P2.out.mono ?_); rintro e w1 ⟨rfl, hb1⟩)
        | (go_at_call 50; (with_reducible refine (P51.out _).mono ?_); rintro e w2 ⟨rfl, hb2⟩; have hb3 := hb1.trans (hb2.mono hb1.size); obtain ⟨-, k0, k1, g0, g1, -⟩ := HC.out _ (HW.out _ hb3); obtain ⟨z0, z1, hbz⟩ := HZ.out _ (.int .i64 0) (.slice none 0 0) (HW.out _ hb3)))
      refine bodyPost_ret (ret_node rfl _ _ w.heap.size _ _ rfl z0 z1) rfl ?_
      exact ⟨by rw [HN.out]; rfl, hbz⟩
    | some q =>
      obtain ⟨lev, l1⟩ := q
      rw [hp2] at P50 HN
      have P51 : Hid (∀ V, Calls Tryd.prog 50 #[.string (txt t)] V fun e w' => ∃ a c, e = .returned (.tuple #[.agg #[.int .i64 (lev : Int), .slice a l1.length c], .bool true]) ∧ (RdP w' a l1 ∧ l1.length ≤ c ∧ ∀ ad, a = some ad → V.heap.size ≤ ad.block) ∧ Below V.heap.size V w') := Lib.hid fun V => (P50.out V).mono (by
        rintro e w' ⟨⟨a, c, he, h1, h2, h3⟩, hb⟩
        exact ⟨a, c, he, ⟨h1, h2, h3⟩, hb⟩)
      clear hp2 P50
      generalize txt t = tt at *
      go_enter Tryd.func51, Tryd.ntmps51
      go_wp2_with (first
        | (go_at_call 123; (with_reducible refine P2.out.mono ?_); rintro e w1 ⟨rfl, hb1⟩)
        | (go_at_call 50; (with_reducible refine (P51.out _).mono ?_); rintro e w2 ⟨a2, c2, rfl, ⟨hr2, hl2, hf2⟩, hb2⟩; have hb3 := hb1.trans (hb2.mono hb1.size); obtain ⟨-, k0, k1, g0, g1, -⟩ := HC.out _ (HW.out _ hb3); obtain ⟨z0, z1, hbz⟩ := HZ.out _ (.int .i64 (lev : Int)) (.slice a2 l1.length c2) (HW.out _ hb3)))
      refine bodyPost_ret (ret_node rfl _ _ w.heap.size _ _ rfl z0 z1) rfl ?_
      have hz1 := hb1.size
      have hz0 := HSZ.out
      rw [HN.out]
      exact ⟨⟨a2, c2, rfl, hr2.keep (Ch.put2 _ _ _ _) (fun ad had e => by have := hf2 ad had; omega), hl2, fun ad had => by have := hf2 ad had; omega⟩, hbz⟩
end Go.Proofs.YtfjlkphpeneahaaDoor
namespace Go.Proofs.YtfjlkphpeneahaaDoor
open Go Go.RowKit

/-- The items whose keys are not below the key. -/
def fromL (key : Bs) (l : List It) : List It := l.dropWhile fun x => ltL x.1 key
theorem fromL_cons (key : Bs) (x : It) (l : List It) : fromL key (x :: l) = if ltL x.1 key = true then fromL key l else x :: l := by
  unfold fromL
  rw [List.dropWhile_cons]
theorem fromL_at {key : Bs} : ∀ {l : List It} {i : Nat}, i < l.length → (∀ j, j < i → ltL (itD l j).1 key = true) → ltL (itD l i).1 key = false → fromL key l = l.drop i
  | [], i, h, _, _ => absurd h (by simp)
  | x :: l, 0, _, _, h => by rw [fromL_cons, if_neg (by rw [show itD (x :: l) 0 = x from rfl] at h; rw [h]; simp)]; rfl
  | x :: l, i + 1, hi, hl, h => by
    rw [fromL_cons, if_pos (show ltL x.1 key = true from hl 0 (by omega))]
    exact fromL_at (by simpa using hi) (fun j hj => hl (j + 1) (by omega)) h
theorem fromL_none {key : Bs} : ∀ {l : List It}, (∀ j, j < l.length → ltL (itD l j).1 key = true) → fromL key l = []
  | [], _ => rfl
  | x :: l, h => by
    rw [fromL_cons, if_pos (show ltL x.1 key = true from h 0 (by simp))]
    exact fromL_none fun j hj => h (j + 1) (by simpa using hj)
set_option maxRecDepth 100000 in
set_option maxHeartbeats 1000000 in
theorem from_any {w : World} (lev : Nat) {a : Option Addr} {l : List It} {c : Nat} (hR : RdP w a l) (hl : l.length ≤ 1000) (hc : l.length ≤ c) (key : Bs) :
    Calls Tryd.prog 52 #[nodeV lev a l.length c, .string (txt key)] w fun e w' => ∃ a' c', e = .returned (.slice a' (fromL key l).length c') ∧ RdP w' a' (fromL key l) ∧ (∀ ad, a' = some ad → ∃ ad', a = some ad' ∧ ad'.block = ad.block) ∧ (fromL key l).length ≤ c' ∧ Below w.heap.size w w' := by
  have hl' : (l.length : Int) ≤ 1000 := by omega
  have hb0 : Below w.heap.size w (w.alloc (.cells #[.int .i64 (lev : Int), .slice a l.length c] 102)) := (Below.refl _ _).alloc (Nat.le_refl _) _
  have hr0 := heap_alloc_new w (.cells #[.int .i64 (lev : Int), .slice a l.length c] 102)
  have HC : Hid (∀ V, Below (w.alloc (.cells #[.int .i64 (lev : Int), .slice a l.length c] 102)).heap.size (w.alloc (.cells #[.int .i64 (lev : Int), .slice a l.length c] 102)) V → V.cell? ⟨w.heap.size, 1, none⟩ = some (.slice a l.length c)) := Lib.hid fun V hV => by
    have h1 := (hV.block w.heap.size (by simp)).trans hr0
    exact cell_of_row _ _ 1 _ _ _ h1
  have c1 := HC.out _ (Below.refl _ _)
  have HR := Lib.hid (hR.new hb0)
  clear hR hr0
  unfold nodeV
  go_enter Tryd.func52, Tryd.ntmps52
  go_wp2
  generalize w.alloc (.cells #[.int .i64 (lev : Int), .slice a l.length c] 102) = W1 at *
  clear c1
  go_loopw [5, 6, 10] (fun _ _ i wr => ∃ ii : Nat, i = .int .i64 (ii : Int) ∧ ii ≤ l.length ∧ Hid (Below W1.heap.size W1 wr ∧ ∀ j, j < ii → ltL (itD l j).1 key = true)) (fun _ _ i _ => l.length - (intOf i).toNat)
  case atStart => exact ⟨0, rfl, Nat.zero_le _, Lib.hid ⟨Below.refl _ _, fun j hj => by omega⟩⟩
  case round =>
    obtain ⟨ii, rfl, hi, HB⟩ := hrel
    by_cases hlt : ii < l.length
    · have hlt' : (ii : Int) < (l.length : Int) := by omega
      have hi0 : (0 : Int) ≤ (ii : Int) := by omega
      have hRr := HR.out.new HB.out.1
      have hcut := hRr.cut ii c hc
      obtain ⟨b, off, ha, k1, k2⟩ := hRr ii hlt
      have hless := less_txt (itD l ii).1 key
      have hnew : Below W1.heap.size W1 (wr.alloc (.cells #[.string (txt (itD l ii).1), .string (txt (itD l ii).2)] 52)) := HB.out.1.trans (((Below.refl wr.heap.size wr).alloc (Nat.le_refl _) _).mono HB.out.1.size)
      have k3 := HC.out _ hnew
      have HN := Lib.hid hnew
      cases hq : ltL (itD l ii).1 key with
      | true =>
        rw [hq] at hless
        have HS : Hid (∀ j, j < ii + 1 → ltL (itD l j).1 key = true) := Lib.hid fun j hj => by
          by_cases e : j = ii
          · rw [e]; exact hq
          · exact HB.out.2 j (by omega)
        clear hq hcut hnew hRr
        subst ha
        generalize itD l ii = x at *
        obtain ⟨xk, xv⟩ := x
        dsimp only at *
        go_wp2
        go_roundw
        case rel => exact ⟨ii + 1, by go_num, by omega, Lib.hid ⟨HN.out, HS.out⟩⟩
        case measure => simp [intOf]; omega
      | false =>
        rw [hq] at hless
        have HE := Lib.hid (fromL_at hlt HB.out.2 hq)
        have HCU := Lib.hid (And.intro hcut (And.intro (hRr.new ((Below.refl wr.heap.size wr).alloc (Nat.le_refl _) (.cells #[.string (txt (itD l ii).1), .string (txt (itD l ii).2)] 52))) ha))
        clear hq hcut hnew hRr
        have hs1 : ∀ V, (Instr.slice 30 (.slice a l.length c) (some (.int .i64 (ii : Int))) none none).run Tryd.prog V = .ok (sliced a ii l.length c 2) V := fun V => by
          rw [run_slice_l (P := Tryd.prog) V 30 a l.length c (by kernel_rfl) .i64 _ (by omega) (by omega)]
          rfl
        obtain ⟨av, hav⟩ : ∃ av, (if c = ii then a else a.map (·.add (ii * 2))) = av := ⟨_, rfl⟩
        unfold sliced at hs1
        rw [hav] at hs1
        have HAV := Lib.hid hav
        subst ha
        generalize itD l ii = x at *
        obtain ⟨xk, xv⟩ := x
        dsimp only at *
        clear hav
        go_wp2
        go_ret
        rw [HE.out, List.length_drop]
        have h1 := (HCU.out.2.1).cut ii c hc
        rw [HAV.out] at h1
        exact ⟨av, c - ii, rfl, h1, fun ad had => (by obtain ⟨q, h8, h9⟩ := cut_blk (m := c) (l := ii) (s := 2) (HAV.out.trans had); cases h8; first | exact h9 | exact ⟨_, rfl, h9⟩), by omega, hb0.trans (HN.out.mono hb0.size)⟩
    · have hlt' : (l.length : Int) ≤ (ii : Int) := by omega
      have HE : Hid (fromL key l = []) := Lib.hid (fromL_none fun j hj => HB.out.2 j (by omega))
      go_wp2
      go_ret
      rw [HE.out]
      exact ⟨none, 0, rfl, RdP.nil _ _, (fun ad h => by cases h), Nat.le_refl _, hb0.trans (HB.out.1.mono hb0.size)⟩
end Go.Proofs.YtfjlkphpeneahaaDoor
namespace Go.Proofs.YtfjlkphpeneahaaDoor
open Go Go.RowKit

def lastK (l : List It) : Bs := (itD l (l.length - 1)).1
/-- Is a node as it must be below an item of a node of that level? -/
def standsB (lev : Nat) (x : It) (k : Nat) (l : List It) : Bool := decide (k + 1 = lev) && (decide (l ≠ []) && (decide (lastK l = x.1) && decide (totB k l = cntB x)))
theorem eql_txt (s t : Bs) : binOp .eql 9 (.string (txt s)) (.string (txt t)) = pure (.bool (decide (s = t))) := by
  rw [← txt_eq]
  simp [binOp, Op.stringOp]
set_option maxRecDepth 100000 in
set_option maxHeartbeats 4000000 in
theorem stands_any {w : World} (lev : Nat) (hlev : 1 ≤ lev) (hlev2 : lev ≤ 100) (k : Nat) {a : Option Addr} {l : List It} {c : Nat} (hR : RdP w a l) (hl : l.length ≤ 1000) (hx : ∀ x ∈ l, x.2.length ≤ 1000000) (x : It) (hxx : x.1.length ≤ 1000000 ∧ x.2.length ≤ 1000000) :
    Calls Tryd.prog 82 #[nodeV k a l.length c, .int .i64 (lev : Int), iv x] w fun e w' => e = .returned (.bool (standsB lev x k l)) ∧ Below w.heap.size w w' := by
  have hl' : (l.length : Int) ≤ 1000 := by omega
  obtain ⟨W1, hW1⟩ : ∃ W1, (w.alloc (.cells #[.int .i64 (k : Int), .slice a l.length c] 102)).alloc (.cells #[.string (txt x.1), .string (txt x.2)] 52) = W1 := ⟨_, rfl⟩
  have hb0 : Below w.heap.size w W1 := by rw [← hW1]; exact ((Below.refl _ _).alloc (Nat.le_refl _) _).alloc (by simp) _
  have hr0 : W1.heap[w.heap.size]? = some (.cells #[.int .i64 (k : Int), .slice a l.length c] 102 (0, 0)) := by rw [← hW1]; exact (Below.heap_alloc _ _ _ (by simp)).trans (heap_alloc_new w _)
  have hr1 : W1.heap[w.heap.size + 1]? = some (.cells #[.string (txt x.1), .string (txt x.2)] 52 (0, 0)) := by
    rw [← hW1]
    have := heap_alloc_new (w.alloc (.cells #[.int .i64 (k : Int), .slice a l.length c] 102)) (.cells #[.string (txt x.1), .string (txt x.2)] 52)
    rwa [show (w.alloc (.cells #[.int .i64 (k : Int), .slice a l.length c] 102)).heap.size = w.heap.size + 1 by simp] at this
  have HC : Hid (∀ V, Below W1.heap.size W1 V → V.cell? ⟨w.heap.size, 0, none⟩ = some (.int .i64 (k : Int)) ∧ V.cell? ⟨w.heap.size, 1, none⟩ = some (.slice a l.length c) ∧ V.cell? ⟨w.heap.size + 1, 0, none⟩ = some (.string (txt x.1)) ∧ V.cell? ⟨w.heap.size + 1, 1, none⟩ = some (.string (txt x.2)) ∧ RdP V a l ∧ Below w.heap.size w V) := Lib.hid fun V hV => by
    have h1 := (hV.block w.heap.size (lt_of_heap hr0)).trans hr0
    have h2 := (hV.block (w.heap.size + 1) (lt_of_heap hr1)).trans hr1
    exact ⟨cell_of_row _ _ 0 _ _ _ h1, cell_of_row _ _ 1 _ _ _ h1, cell_of_row _ _ 0 _ _ _ h2, cell_of_row _ _ 1 _ _ _ h2, (hR.new hb0).new hV, hb0.trans (hV.mono hb0.size)⟩
  obtain ⟨c0, c1, c2, c3, -, -⟩ := HC.out _ (Below.refl _ _)
  have P30 := Lib.hid (fun V => told_any x hxx.2 V)
  obtain ⟨s0, q0, hv⟩ := toldV_form x
  rw [hv] at P30
  have P68 : Hid (∀ V, Below W1.heap.size W1 V → Calls Tryd.prog 68 #[.agg #[.int .i64 (k : Int), .slice a l.length c]] V fun e w' => e = .returned (.int .i64 (totB k l : Int)) ∧ Below V.heap.size V w') := Lib.hid fun V hV => count_any k (HC.out V hV).2.2.2.2.1 hl hx
  have HD : Hid (standsB lev x k l = (decide (k + 1 = lev) && (decide (l ≠ []) && (decide (lastK l = x.1) && decide (totB k l = cntB x))))) := Lib.hid rfl
  have HRL := Lib.hid (hR.new hb0)
  clear hv hr0 hr1 hR hx hxx
  subst hW1
  unfold iv at P30 ⊢
  unfold nodeV
  by_cases h1 : k + 1 = lev
  · have hq2 : (lev : Int) - 1 = (k : Int) := by omega
    rw [decide_eq_true h1, Bool.true_and] at HD
    by_cases h2 : l = []
    · have HT : Hid (standsB lev x k l = false) := Lib.hid (by rw [HD.out, decide_eq_false (fun h => h h2)]; rfl)
      have hz : (l.length : Int) = 0 := by rw [h2]; rfl
      clear h2 HD h1
      go_enter Tryd.func82, Tryd.ntmps82
      go_wp2
      go_ret
      exact ⟨by rw [HT.out]; rfl, hb0⟩
    · have hlp := List.length_pos_iff.2 h2
      have hz : ¬ (l.length : Int) = 0 := by omega
      have hz2 : ((l.length : Int) == 0) = false := by rw [beq_eq_false_iff_ne]; exact hz
      rw [decide_eq_true h2, Bool.true_and] at HD
      have HLK : Hid (∀ V, Below ((w.alloc (.cells #[.int .i64 (k : Int), .slice a l.length c] 102)).alloc (.cells #[.string (txt x.1), .string (txt x.2)] 52)).heap.size ((w.alloc (.cells #[.int .i64 (k : Int), .slice a l.length c] 102)).alloc (.cells #[.string (txt x.1), .string (txt x.2)] 52)) V → ∃ b off, a = some ⟨b, off, none⟩ ∧ V.cell? ⟨b, off + (l.length - 1) * 2, none⟩ = some (.string (txt (lastK l)))) := Lib.hid fun V hV => by
        obtain ⟨b, off, ha, h3, _⟩ := (HRL.out.new hV) (l.length - 1) (by omega)
        exact ⟨b, off, ha, h3⟩
      clear h2 h1
      have heq := eql_txt (lastK l) x.1
      by_cases h4 : lastK l = x.1
      · have hyes : decide (lastK l = x.1) = true := decide_eq_true h4
        have HT : Hid (standsB lev x k l = decide (totB k l = cntB x)) := Lib.hid (by rw [HD.out, hyes]; rfl)
        rw [hyes] at heq
        clear h4 HD hyes
        generalize txt (lastK l) = lk at *
        generalize txt x.1 = xk at *
        generalize txt x.2 = xv at *
        have i1 : IntKind.i64.wrap ((l.length : Int) - 1) = (l.length : Int) - 1 := IntWalk.i64_in _ (by omega)
        have i2 : (0 : Int) ≤ (l.length : Int) - 1 := by omega
        have i3 : (l.length : Int) - 1 < (l.length : Int) := by omega
        have i4 : ((l.length : Int) - 1).toNat = l.length - 1 := by omega
        have i5 : (1 : Int) ≤ (l.length : Int) := by omega
        have i6 : wrap64 ((l.length : Int) - 1) = (l.length : Int) - 1 := by unfold wrap64; omega
        have HQ : Hid (decide (totB k l = cntB x) = ((totB k l : Int) == (cntB x : Int))) := Lib.hid (by
          by_cases h : totB k l = cntB x
          · rw [decide_eq_true h, h, beq_self_eq_true]
          · rw [decide_eq_false h]; exact (beq_eq_false_iff_ne.2 (by omega)).symm)
        generalize (totB k l : Int) = T at *
        generalize (cntB x : Int) = C at *
        go_enter Tryd.func82, Tryd.ntmps82
        go_wp2_with (go_at_call 30; (with_reducible refine (P30.out _).mono ?_); rintro e w1 ⟨rfl, hb1⟩; obtain ⟨d0, d1, d2, d3, -, hbw⟩ := HC.out _ hb1; obtain ⟨b, off, ha, k5⟩ := HLK.out _ hb1; subst ha)
        have HK : Hid (∀ V, Below w1.heap.size w1 V → V.cell? ⟨w.heap.size, 0, none⟩ = some (.int .i64 (k : Int)) ∧ V.cell? ⟨w.heap.size, 1, none⟩ = some (.slice (some ⟨b, off, none⟩) l.length c) ∧ V.cell? ⟨w.heap.size + 1, 0, none⟩ = some (.string xk) ∧ V.cell? ⟨b, off + (l.length - 1) * 2, none⟩ = some (.string lk)) := Lib.hid fun V hV => ⟨(Ch.of_new (S := fun _ => False) hV).cell d0 id, (Ch.of_new (S := fun _ => False) hV).cell d1 id, (Ch.of_new (S := fun _ => False) hV).cell d2 id, (Ch.of_new (S := fun _ => False) hV).cell k5 id⟩
        have P68' := Lib.hid (P68.out w1.drew (hb1.trans ((Ch.drewN (fun _ => False) w1 1).new.mono hb1.size)))
        clear d3
        go_region_held3 (fun V => V.cell? ⟨w.heap.size, 0, none⟩ = some (.int .i64 (k : Int)) ∧ V.cell? ⟨w.heap.size, 1, none⟩ = some (.slice (some ⟨b, off, none⟩) l.length c) ∧ V.cell? ⟨w.heap.size + 1, 0, none⟩ = some (.string xk) ∧ V.cell? ⟨b, off + (l.length - 1) * 2, none⟩ = some (.string lk))
          (first | exact ⟨d0, d1, d2, k5⟩ | exact HK.out _ hb2)
          (first | (go_at_call 68; (with_reducible refine P68'.out.mono ?_); rintro e w2 ⟨rfl, hb2'⟩; have hb2 : Below w1.heap.size w1 w2 := undrew hb2'))
        all_goals (
          go_wp2
          go_ret
          exact ⟨by rw [HT.out, HQ.out]; rfl, hbw.trans (hb2.mono hbw.size)⟩)
      · have hne : decide (lastK l = x.1) = false := decide_eq_false h4
        have HT : Hid (standsB lev x k l = false) := Lib.hid (by rw [HD.out, hne]; rfl)
        rw [hne] at heq
        clear h4 HD hne
        generalize txt (lastK l) = lk at *
        generalize txt x.1 = xk at *
        generalize txt x.2 = xv at *
        have i1 : IntKind.i64.wrap ((l.length : Int) - 1) = (l.length : Int) - 1 := IntWalk.i64_in _ (by omega)
        have i2 : (0 : Int) ≤ (l.length : Int) - 1 := by omega
        have i3 : (l.length : Int) - 1 < (l.length : Int) := by omega
        have i4 : ((l.length : Int) - 1).toNat = l.length - 1 := by omega
        go_enter Tryd.func82, Tryd.ntmps82
        go_wp2_with (go_at_call 30; (with_reducible refine (P30.out _).mono ?_); rintro e w1 ⟨rfl, hb1⟩; obtain ⟨d0, d1, d2, d3, -, hbw⟩ := HC.out _ hb1; obtain ⟨b, off, ha, k5⟩ := HLK.out _ hb1; subst ha)
        go_big_quiet (fail)
        go_wp2
        go_ret
        exact ⟨by rw [HT.out]; rfl, hbw.trans ((Ch.drewN (fun _ => False) _ _).new.mono hbw.size)⟩
  · have hq : ((k : Int) != (lev : Int) - 1) = true := by simp; omega
    have hq2 : ¬ (k : Int) = (lev : Int) - 1 := by omega
    have i0 : IntKind.i64.wrap ((lev : Int) - 1) = (lev : Int) - 1 := IntWalk.i64_in _ (by omega)
    have HT : Hid (standsB lev x k l = false) := Lib.hid (by rw [HD.out, decide_eq_false h1]; rfl)
    clear h1 HD
    go_enter Tryd.func82, Tryd.ntmps82
    go_wp2
    go_ret
    exact ⟨by rw [HT.out]; rfl, hb0⟩
end Go.Proofs.YtfjlkphpeneahaaDoor
namespace Go.Proofs.YtfjlkphpeneahaaDoor
open Go Go.RowKit

theorem parseL_some {s : Bs} {k : Nat} {m : List It} (h : parseL s = some (k, m)) : k ≤ 32 ∧ m.length ≤ 16 ∧ rightL k m = true := by
  unfold parseL at h
  split at h
  · rename_i a b c r
    split at h
    · rename_i hc
      cases hr : rdItems c.toNat r with
      | none => rw [hr] at h; cases h
      | some p =>
        obtain ⟨l, q⟩ := p
        rw [hr, Option.bind_some] at h
        split at h
        · rename_i hq
          cases h
          exact ⟨hc.2.1, by rw [rdItems_len _ _ hr]; exact hc.2.2, hq.2⟩
        · cases h
    · cases h
  · cases h
theorem rootP_some {l : Tx} {p : Bs} {k : Nat} {m : List It} (h : rootP l p = some (k, m)) : k ≤ 32 ∧ m.length ≤ 16 ∧ rightL k m = true := by
  unfold rootP at h
  cases ha : at_ l p with
  | none => rw [ha] at h; cases h
  | some t => rw [ha] at h; exact parseL_some h
theorem right_sizes {k : Nat} {m : List It} (h : rightL k m = true) : ∀ x ∈ m, x.1.length ≤ 2000 ∧ x.2.length ≤ 8000 := by
  unfold rightL at h
  rw [Bool.and_eq_true] at h
  exact mapOk_len h.1
theorem right_told {k : Nat} {m : List It} (h : rightL k m = true) (hk : k ≠ 0) : m ≠ [] ∧ ∀ x ∈ m, toldOk x = true := by
  unfold rightL at h
  rw [Bool.and_eq_true, Bool.or_eq_true] at h
  rcases h.2 with h2 | h2
  · exact absurd (beq_iff_eq.1 h2) hk
  · rw [Bool.and_eq_true] at h2
    exact ⟨of_decide_eq_true h2.1, List.all_eq_true.1 h2.2⟩
/-- The node below an item of a node of that level. -/
def belowP (l : Tx) (lev : Nat) (x : It) : Option (List It) := (rootP l (prn x)).bind fun p => if standsB lev x p.1 p.2 = true then some p.2 else none
def BelowPost (n0 lev : Nat) (w' : World) (o : Option (List It)) (e : Ending) : Prop :=
  match o with
  | none => ∃ (z : Int) (a : Option Addr) (n c : Nat), e = .returned (.tuple #[.agg #[.int .i64 z, .slice a n c], .bool false])
  | some m => ∃ a c, e = .returned (.tuple #[nodeV (lev - 1) a m.length c, .bool true]) ∧ RdP w' a m ∧ m.length ≤ c ∧ ∀ ad, a = some ad → n0 ≤ ad.block
set_option maxRecDepth 100000 in
set_option maxHeartbeats 4000000 in
theorem getBelow_any {w : World} {h base : Nat} {l : Tx} (H : Hp w h base l) (hs : Small l) (lev : Nat) (hlev : 1 ≤ lev) (hlev2 : lev ≤ 100) (x : It) (hx : x.1.length ≤ 1000000 ∧ toldOk x = true) :
    Calls Tryd.prog 53 #[srcV h, .int .i64 (lev : Int), iv x] w fun e w' => BelowPost w.heap.size lev w' (belowP l lev x) e ∧ Below w.heap.size w w' := by
  have hx40 : x.2.length = 40 := by have := hx.2; unfold toldOk at this; exact (of_decide_eq_true this).1
  have P30 := Lib.hid (fun V => told_any x (by omega) V)
  have hv : toldV x = .tuple #[.string (txt (prn x)), .int .i64 (cnt x : Int), .bool true] := by unfold toldV; rw [if_pos hx.2]
  rw [hv] at P30
  have hpl : (prn x).length ≤ 1000000 := by unfold prn; rw [List.length_take]; omega
  have hb0 : Below w.heap.size w ((w.alloc (.cells #[.string (txt x.1), .string (txt x.2)] 52)).alloc (.cells #[.int .i64 0, .slice none 0 0] 102)) := ((Below.refl _ _).alloc (Nat.le_refl _) _).alloc (by simp) _
  have P51 := Lib.hid (fun V (hV : Below w.heap.size w V) => getNode_any (H.new hV) hs (prn x) hpl)
  have P82 := Lib.hid (fun V k a c m (hR : RdP V a m) (hr : k ≤ 32 ∧ m.length ≤ 16 ∧ rightL k m = true) => stands_any lev hlev hlev2 k (c := c) hR (by omega) (fun y hy => by have := right_sizes hr.2.2 y hy; omega) x (by omega))
  have hr0 : ((w.alloc (.cells #[.string (txt x.1), .string (txt x.2)] 52)).alloc (.cells #[.int .i64 0, .slice none 0 0] 102)).heap[w.heap.size]? = some (.cells #[.string (txt x.1), .string (txt x.2)] 52 (0, 0)) := (Below.heap_alloc _ _ _ (by simp)).trans (heap_alloc_new w _)
  have hr1 : ((w.alloc (.cells #[.string (txt x.1), .string (txt x.2)] 52)).alloc (.cells #[.int .i64 0, .slice none 0 0] 102)).heap[w.heap.size + 1]? = some (.cells #[.int .i64 0, .slice none 0 0] 102 (0, 0)) := by
    have := heap_alloc_new (w.alloc (.cells #[.string (txt x.1), .string (txt x.2)] 52)) (.cells #[.int .i64 0, .slice none 0 0] 102)
    rwa [show (w.alloc (.cells #[.string (txt x.1), .string (txt x.2)] 52)).heap.size = w.heap.size + 1 by simp] at this
  have hsz : ((w.alloc (.cells #[.string (txt x.1), .string (txt x.2)] 52)).alloc (.cells #[.int .i64 0, .slice none 0 0] 102)).heap.size = w.heap.size + 2 := by simp
  generalize hW1 : (w.alloc (.cells #[.string (txt x.1), .string (txt x.2)] 52)).alloc (.cells #[.int .i64 0, .slice none 0 0] 102) = W1 at *
  have HC : Hid (∀ V, Below (w.heap.size + 2) W1 V → (V.cell? ⟨w.heap.size, 0, none⟩ = some (.string (txt x.1)) ∧ V.cell? ⟨w.heap.size, 1, none⟩ = some (.string (txt x.2))) ∧ V.heap[w.heap.size + 1]? = some (.cells #[.int .i64 0, .slice none 0 0] 102 (0, 0)) ∧ (V.cell? ⟨w.heap.size + 1, 0, none⟩ = some (.int .i64 0) ∧ V.cell? ⟨w.heap.size + 1, 1, none⟩ = some (.slice none 0 0) ∧ V.frozen? ⟨w.heap.size + 1, 0, none⟩ = false ∧ V.frozen? ⟨w.heap.size + 1, 1, none⟩ = false) ∧ Below w.heap.size w V) := Lib.hid fun V hV => by
    have h1 := (hV.block w.heap.size (by omega)).trans hr0
    have h2 := (hV.block (w.heap.size + 1) (by omega)).trans hr1
    exact ⟨⟨cell_of_row _ _ 0 _ _ _ h1, cell_of_row _ _ 1 _ _ _ h1⟩, h2, ⟨cell_of_row _ _ 0 _ _ _ h2, cell_of_row _ _ 1 _ _ _ h2, frozen_of_row _ _ _ _ _ h2, frozen_of_row _ _ _ _ _ h2⟩, hb0.trans (hV.mono (by omega))⟩
  have HS := Lib.hid (And.intro hsz hW1)
  obtain ⟨⟨c0, c1⟩, -, ⟨c2, c3, f2, f3⟩, -⟩ := HC.out _ (Below.refl _ _)
  rw [← hW1] at c0 c1 c2 c3 f2 f3
  have HB : Hid (belowP l lev x = (rootP l (prn x)).bind fun p => if standsB lev x p.1 p.2 = true then some p.2 else none) := Lib.hid rfl
  have hroot := fun k m (h : rootP l (prn x) = some (k, m)) => rootP_some h
  clear hv hr0 hr1 hsz hx hx40 hpl H hW1 hb0
  unfold iv at P30 P82 ⊢
  unfold srcV at P51 ⊢
  cases hrt : rootP l (prn x) with
  | none =>
    rw [hrt] at P51 HB
    have HN : Hid (belowP l lev x = none) := Lib.hid HB.out
    have P52 : Hid (∀ V, Below w.heap.size w V → Calls Tryd.prog 51 #[.iface 40 (.pointer (some ⟨h, 0, none⟩)), .string (txt (prn x))] V fun e w' => e = .returned (.tuple #[.agg #[.int .i64 0, .slice none 0 0], .bool false]) ∧ Below V.heap.size V w') := P51
    clear P51 HB hrt hroot P82
    generalize txt (prn x) = tp at *
    go_enter Tryd.func53, Tryd.ntmps53
    go_wp2_with (first
      | (go_at_call 30; (with_reducible refine (P30.out _).mono ?_); rintro e w1 ⟨rfl, hb1⟩; rw [HS.out.2] at hb1; have hb1' := hb1.mono (show w.heap.size + 2 ≤ W1.heap.size by have := HS.out.1; omega); obtain ⟨d0, -, d1, hbw⟩ := HC.out _ hb1')
      | (go_at_call 51; (with_reducible refine (P52.out _ hbw).mono ?_); rintro e w2 ⟨rfl, hb2⟩))
    have hw2 := hb1'.trans (hb2.mono (by have := hb1'.size; have := HS.out.1; omega))
    have hw3 : Below (w.heap.size + 2) W1 (w2.alloc (.cells #[.int .i64 0, .slice none 0 0] 102)) := hw2.alloc (by have := hw2.size; have := HS.out.1; omega) _
    have hr3 := heap_alloc_new w2 (.cells #[.int .i64 0, .slice none 0 0] 102)
    have z2 : w.heap.size + 2 ≤ w2.heap.size := by have := hw2.size; have := HS.out.1; omega
    obtain ⟨-, e1, ⟨e2, e3, e4, e5⟩, e6⟩ := HC.out _ hw3
    have k0 : (w2.alloc (.cells #[.int .i64 0, .slice none 0 0] 102)).cell? ⟨w2.heap.size, 0, none⟩ = some (.int .i64 0) := cell_of_row _ _ 0 _ _ _ hr3
    have k1 : (w2.alloc (.cells #[.int .i64 0, .slice none 0 0] 102)).cell? ⟨w2.heap.size, 1, none⟩ = some (.slice none 0 0) := cell_of_row _ _ 1 _ _ _ hr3
    generalize w2.alloc (.cells #[.int .i64 0, .slice none 0 0] 102) = W3 at *
    generalize w2.heap.size = n11 at *
    have hne : ¬ n11 = w.heap.size + 1 := by omega
    clear hr3 d0 d1 hbw hb1 hb2 hb1' c0 c1 c2 c3 f2 f3
    have hd : Below w.heap.size w W3.drew := e6.drew
    have ed1 : W3.drew.heap[w.heap.size + 1]? = _ := e1
    have ed2 : W3.drew.cell? ⟨w.heap.size + 1, 0, none⟩ = _ := e2
    have ed3 : W3.drew.cell? ⟨w.heap.size + 1, 1, none⟩ = _ := e3
    have ed4 : W3.drew.frozen? ⟨w.heap.size + 1, 0, none⟩ = _ := e4
    have ed5 : W3.drew.frozen? ⟨w.heap.size + 1, 1, none⟩ = _ := e5
    have kd0 : W3.drew.cell? ⟨n11, 0, none⟩ = _ := k0
    have kd1 : W3.drew.cell? ⟨n11, 1, none⟩ = _ := k1
    go_region
    go_wp2
    obtain ⟨hrow, z0, z1⟩ : ((W3.drew.setCell ⟨w.heap.size + 1, 0, none⟩ (.int .i64 0)).setCell ⟨w.heap.size + 1, 1, none⟩ (.slice none 0 0)).heap[w.heap.size + 1]? = some (.cells #[.int .i64 0, .slice none 0 0] 102 (0, 0)) ∧ ((W3.drew.setCell ⟨w.heap.size + 1, 0, none⟩ (.int .i64 0)).setCell ⟨w.heap.size + 1, 1, none⟩ (.slice none 0 0)).cell? ⟨w.heap.size + 1, 0, none⟩ = some (.int .i64 0) ∧ ((W3.drew.setCell ⟨w.heap.size + 1, 0, none⟩ (.int .i64 0)).setCell ⟨w.heap.size + 1, 1, none⟩ (.slice none 0 0)).cell? ⟨w.heap.size + 1, 1, none⟩ = some (.slice none 0 0) := by
      have hrow := heap_put2 (x := .int .i64 0) (y := .slice none 0 0) ed1
      exact ⟨hrow, cell_of_row _ _ 0 _ _ _ hrow, cell_of_row _ _ 1 _ _ _ hrow⟩
    refine bodyPost_ret (ret_node rfl _ _ (w.heap.size + 1) _ _ rfl z0 z1) rfl ?_
    refine ⟨?_, hd.trans ((Ch.put2 _ _ _ _).below hd.size fun k hk e => by omega)⟩
    rw [HN.out]
    exact ⟨_, _, _, _, rfl⟩
  | some p =>
    obtain ⟨k, m⟩ := p
    rw [hrt] at P51 HB
    have hrm := hroot k m hrt
    have P52 : Hid (∀ V, Below w.heap.size w V → Calls Tryd.prog 51 #[.iface 40 (.pointer (some ⟨h, 0, none⟩)), .string (txt (prn x))] V fun e w' => ∃ a c, e = .returned (.tuple #[.agg #[.int .i64 (k : Int), .slice a m.length c], .bool true]) ∧ (RdP w' a m ∧ m.length ≤ c ∧ ∀ ad, a = some ad → V.heap.size ≤ ad.block) ∧ Below V.heap.size V w') := Lib.hid fun V hV => (P51.out V hV).mono (by
      rintro e w' ⟨⟨a, c, he, h1, h2, h3⟩, hb⟩
      exact ⟨a, c, he, ⟨h1, h2, h3⟩, hb⟩)
    have P83 : Hid (∀ V a c, RdP V a m → Calls Tryd.prog 82 #[.agg #[.int .i64 (k : Int), .slice a m.length c], .int .i64 (lev : Int), .agg #[.string (txt x.1), .string (txt x.2)]] V fun e w' => e = .returned (.bool (standsB lev x k m)) ∧ Below V.heap.size V w') := Lib.hid fun V a c hR => P82.out V k a c m hR hrm
    have HB2 : Hid (belowP l lev x = if standsB lev x k m = true then some m else none) := Lib.hid HB.out
    have HKL : Hid (standsB lev x k m = true → k = lev - 1) := Lib.hid fun h => by
      unfold standsB at h
      rw [Bool.and_eq_true] at h
      have := of_decide_eq_true h.1
      omega
    clear P51 P82 HB hrt hroot hrm
    generalize standsB lev x k m = sb at *
    generalize txt (prn x) = tp at *
    go_enter Tryd.func53, Tryd.ntmps53
    go_wp2_with (first
      | (go_at_call 30; (with_reducible refine (P30.out _).mono ?_); rintro e w1 ⟨rfl, hb1⟩; rw [HS.out.2] at hb1; have hb1' := hb1.mono (show w.heap.size + 2 ≤ W1.heap.size by have := HS.out.1; omega); obtain ⟨d0, -, d1, hbw⟩ := HC.out _ hb1')
      | (go_at_call 51; (with_reducible refine (P52.out _ hbw).mono ?_); rintro e w2 ⟨a2, c2, rfl, ⟨hr2, hl2, hf2⟩, hb2⟩))
    have hw2 := hb1'.trans (hb2.mono (by have := hb1'.size; have := HS.out.1; omega))
    have hw3 : Below (w.heap.size + 2) W1 (w2.alloc (.cells #[.int .i64 (k : Int), .slice a2 m.length c2] 102)) := hw2.alloc (by have := hw2.size; have := HS.out.1; omega) _
    have hr3 := heap_alloc_new w2 (.cells #[.int .i64 (k : Int), .slice a2 m.length c2] 102)
    have hR3 := hr2.new ((Below.refl w2.heap.size w2).alloc (Nat.le_refl _) (.cells #[.int .i64 (k : Int), .slice a2 m.length c2] 102))
    have z2 : w.heap.size + 2 ≤ w2.heap.size := by have := hw2.size; have := HS.out.1; omega
    have zz : w.heap.size + 2 ≤ w1.heap.size := by have := hb1'.size; have := HS.out.1; omega
    have hfr : ∀ ad, a2 = some ad → w.heap.size + 2 ≤ ad.block := fun ad had => by have := hf2 ad had; omega
    generalize hW3 : w2.alloc (.cells #[.int .i64 (k : Int), .slice a2 m.length c2] 102) = W3 at *
    have hn11 : w2.heap.size < W3.heap.size := lt_of_heap hr3
    generalize w2.heap.size = n11 at *
    have HV : Hid (∀ V, Below W3.heap.size W3 V → (V.cell? ⟨n11, 0, none⟩ = some (.int .i64 (k : Int)) ∧ V.cell? ⟨n11, 1, none⟩ = some (.slice a2 m.length c2)) ∧ (V.cell? ⟨w.heap.size, 0, none⟩ = some (.string (txt x.1)) ∧ V.cell? ⟨w.heap.size, 1, none⟩ = some (.string (txt x.2))) ∧ (V.cell? ⟨w.heap.size + 1, 0, none⟩ = some (.int .i64 0) ∧ V.cell? ⟨w.heap.size + 1, 1, none⟩ = some (.slice none 0 0) ∧ V.frozen? ⟨w.heap.size + 1, 0, none⟩ = false ∧ V.frozen? ⟨w.heap.size + 1, 1, none⟩ = false) ∧ V.heap[w.heap.size + 1]? = some (.cells #[.int .i64 0, .slice none 0 0] 102 (0, 0)) ∧ Below w.heap.size w V ∧ RdP V a2 m) := Lib.hid fun V hV => by
      have h1 := (hV.block n11 hn11).trans hr3
      have h2 := hw3.trans (hV.mono (by have := hw3.size; have := HS.out.1; omega))
      obtain ⟨q1, q2, q3, q4⟩ := HC.out _ h2
      exact ⟨⟨cell_of_row _ _ 0 _ _ _ h1, cell_of_row _ _ 1 _ _ _ h1⟩, q1, q3, q2, q4, hR3.new hV⟩
    obtain ⟨⟨k0, k1⟩, ⟨i0, i1⟩, ⟨e2, e3, e4, e5⟩, -, -, -⟩ := HV.out _ (Below.refl _ _)
    obtain ⟨⟨kd0, kd1⟩, ⟨id0, id1⟩, ⟨ed2, ed3, ed4, ed5⟩, -, -, hRd⟩ := HV.out _ (Below.refl W3.heap.size W3).drew
    have P84 := Lib.hid (P83.out W3.drew a2 c2 hRd)
    have HFR := Lib.hid (And.intro hfr (And.intro hl2 z2))
    clear hr3 d0 d1 hbw hb1 hb2 hb1' hw2 hw3 hR3 hr2 hl2 hf2 hfr hRd hn11 hW3
    go_region_with (go_at_call 82; (with_reducible refine P84.out.mono ?_); rintro e w4 ⟨rfl, hb4'⟩; have hb4 : Below W3.heap.size W3 w4 := undrew hb4'; obtain ⟨⟨ke0, ke1⟩, ⟨ie0, ie1⟩, ⟨ee2, ee3, ee4, ee5⟩, er, eb, eR⟩ := HV.out _ hb4)
    all_goals (
      go_wp2
      have hrow := heap_put2 (x := .int .i64 (k : Int)) (y := .slice a2 m.length c2) er
      refine bodyPost_ret (ret_node rfl _ _ (w.heap.size + 1) _ _ rfl (cell_of_row _ _ 0 _ _ _ hrow) (cell_of_row _ _ 1 _ _ _ hrow)) rfl ?_
      refine ⟨?_, eb.trans ((Ch.put2 _ _ _ _).below eb.size fun k hk e => by omega)⟩
      rw [HB2.out]
      cases sb with
      | false => exact ⟨_, _, _, _, rfl⟩
      | true =>
        have hk := HKL.out rfl
        exact ⟨a2, c2, by rw [hk]; rfl, eR.keep (Ch.put2 _ _ _ _) (fun ad had e => by have := HFR.out.1 ad had; omega), HFR.out.2.1, fun ad had => by have := HFR.out.1 ad had; omega⟩)
end Go.Proofs.YtfjlkphpeneahaaDoor
