/- The walk of the document's Print. Appends of texts, as runs; the document's store in memory. The document's has. The document's store, plainly, and what the program's says beside it, where no two texts clash. More of what the program's store says beside the document's: Drop, Get, Prints, Collect. Collect, the program's beside the document's. The walks of the document's Put and Commit. The walk of the document's Commit. The walk of the document's Collect. The walk of the document's Prints. Collect of a store that is down. The walk of the law's same. A list of acts that came in; the walks of size, prints and clash; Fuel of a store's disk. The walk of the law's clash. The document's stores beside the program's, in memory: what a step of either leaves of the other; what holds between acts. The calls of runs, as its walk meets them. Collect, as the walk of runs meets it. A fall and what follows, as the walk of runs meets it. -/
import Derived.Test.YtogihpofkjpokaaGreatDoorAWalkBy
import Derived.Test.YtogihpofkjpokaaGreatDoorAWalkK
import Derived.Test.YtogihpofkjpokaaGreatDoorFAll
import Derived.Laws.OwnMore
import Derived.Test.YtogihpofkjpokaaGreatDoorCL
import Derived.Test.YtogihpofkjpokaaGreatDoorCP
import Derived.Deep.RegionHeld3
import Derived.BigQuiet
namespace Go.Proofs.YtogihpofkjpokaaGreatDoor.S1
open Go Go.RowKit

theorem Kp.below {B : Nat} {w w' : World} (h : Kp B w w') : Below B w w' := ⟨h.os, h.tape, h.output, h.size, h.block⟩
set_option maxRecDepth 100000 in
set_option maxHeartbeats 400000 in
theorem rprint_any (s : ByteArray) (hs : s.size ≤ 100000) (w : World) :
    Calls Tryz.prog 22 #[.string s] w fun e w' => e = .returned (.string ⟨(shaL s.data.toList).toArray⟩) ∧ Below w.heap.size w w' := by
  go_enter Tryz.func22, Tryz.ntmps22
  go_wp2_with fail
  refine (h_any w).mono ?_
  rintro e w1 ⟨rfl, h1, k1⟩
  have z1 := h1.lt
  go_wp2_with fail
  refine (k_any w1).mono ?_
  rintro e w2 ⟨rfl, h2, k2⟩
  have h1' := h1.kp k2 z1
  go_wp2_with fail
  refine (by_any s hs st0 kl rfl _ _ _ _ w2 h1' h2).mono ?_
  rintro e w3 ⟨rfl, k3⟩
  have z2 := k1.size
  have z3 := k2.size
  go_wp2_with fail
  go_ret
  exact ⟨rfl, ((k1.trans (k2.mono z2)).trans (k3.mono (by omega))).below⟩
end Go.Proofs.YtogihpofkjpokaaGreatDoor.S1
namespace Go.Proofs.YtogihpofkjpokaaGreatDoor
open Go Go.RowKit
open F5 (txt txt_size data_txt RdT OwT sv getD_at)
section
attribute [-go_sem] Builtin.append_

/-- append of all texts of a list. -/
theorem append_run_ty (ty : TypeId) (w : World) (base : Nat) (v : Value) (xs : List (List UInt8)) (hown : OwT w base v xs) (ad : Option Addr) (c : Nat) (ys : List (List UInt8)) (hr : RdT w ad ys) (hn : ad = none → c = 0)
    (hlen : xs.length + ys.length ≤ 100000000) (hbase : base ≤ w.heap.size) :
    ∃ a' c' w', (Builtin.append_ #[25, 25] ty #[v, .slice ad ys.length c]).run Tryz.prog w = .ok (.slice a' (xs.length + ys.length) c') w' ∧ OwT w' base (.slice a' (xs.length + ys.length) c') (xs ++ ys) ∧ Ch (fun j => v.ownBlock = some j) w w' := by
  obtain ⟨i0, hi, hz0, hz1, hz2⟩ := info_parts F5.Tryz.info9
  cases ad with
  | none =>
    have hy : ys = [] := by
      cases ys with
      | nil => rfl
      | cons y l => obtain ⟨_, _, he, _⟩ := hr 0 (by simp); cases he
    subst hy
    rw [hn rfl]
    obtain ⟨a', c', rfl, h1, _⟩ := hown.rd
    refine ⟨a', c', w, run_append_owned_none w base 25 ty 9 i0 1 Tryz.underlying25 hi _ xs.length (xs.map sv) hown, ?_, Ch.refl _ _⟩
    rw [List.append_nil]; exact hown
  | some ad =>
    obtain ⟨v', w', h1, h2, h3, _⟩ := run_append_own (P := Tryz.prog) w base 25 ty 9 i0 _ 1 16 Tryz.underlying25 hi hz0 hz1 hz2 rfl (by decide) v xs.length (xs.map sv) hown ad ys.length c (ys.map sv) (by simp)
      (fun j z hj => by
        have hjl : j < ys.length := by
          have := (List.getElem?_eq_some_iff.1 hj).1
          simpa using this
        obtain ⟨b, off, he, hcell⟩ := hr j hjl
        cases he
        rw [Addr.add_lit, hcell, ← hj, List.getElem?_map, List.getElem?_eq_getElem hjl, getD_at hjl]
        rfl)
      (fun z hz => by
        obtain ⟨y, _, rfl⟩ := List.mem_map.1 hz
        rfl) (by unfold maxLen; omega) (by omega) hbase
    have ho : OwT w' base v' (xs ++ ys) := by
      unfold OwT
      rw [List.length_append, List.map_append]
      exact h2
    obtain ⟨a', c', hv, h4, _⟩ := ho.rd
    rw [List.length_append] at hv
    subst hv
    exact ⟨a', c', w', h1, ho, Ch.of_grown h3 fun k hk => hk⟩
section
variable {w : World} {o : Oper} {a : Act} {Q : Exit → Act → World → Prop}
theorem wp_app {K : Act → World → Prop} (s x : Operand) (ho : o.op = .call { callee := .builtin .append, args := #[s, x], argTypes := #[25, 25] })
    (base : Nat) (v : Value) (xs : List (List UInt8)) (hs : a.eval s = v) (hown : OwT w base v xs) (ad : Option Addr) (c : Nat) (ys : List (List UInt8)) (n : Nat) (hn : n = ys.length) (hx : a.eval x = .slice ad n c)
    (hr : RdT w ad ys) (hn0 : ad = none → c = 0) (hlen : xs.length + ys.length ≤ 100000000) (hbase : base ≤ w.heap.size)
    (h : ∀ a' c' w', OwT w' base (.slice a' (xs ++ ys).length c') (xs ++ ys) → Ch (fun j => v.ownBlock = some j) w w' → K (a.put o.dst (.slice a' (xs ++ ys).length c')) w') : o.wp Tryz.prog a w K Q := by
  subst hn
  obtain ⟨a', c', w', hrun, h2, h3⟩ := append_run_ty o.type w base v xs hown ad c ys hr hn0 hlen hbase
  unfold Oper.wp execOp
  simp only [ho, resolve, invoke, builtin, Sem.run_bind, Sem.run_pure, Result.andThen_ok, List.map_toArray, List.map_cons, List.map_nil, hs, hx, hrun]
  have := h a' c' w'
  rw [List.length_append] at this
  exact this h2 h3
/-- append, within a region that draws. -/
theorem step_app {ops : Array Oper} {K : Act → World → Prop} {E : Prop} (hgd : o.guard = none) (s x : Operand) (ho : o.op = .call { callee := .builtin .append, args := #[s, x], argTypes := #[25, 25] })
    (base : Nat) (v : Value) (xs : List (List UInt8)) (hs : a.eval s = v) (hown : OwT w base v xs) (ad : Option Addr) (c : Nat) (ys : List (List UInt8)) (n : Nat) (hn : n = ys.length) (hx : a.eval x = .slice ad n c)
    (hr : RdT w ad ys) (hn0 : ad = none → c = 0) (hlen : xs.length + ys.length ≤ 100000000) (hbase : base ≤ w.heap.size)
    (h : ∀ a' c' w', OwT w' base (.slice a' (xs ++ ys).length c') (xs ++ ys) → Ch (fun j => v.ownBlock = some j) w w' → K (a.put o.dst (.slice a' (xs ++ ys).length c')) w') :
    if Region.wanted o (yielded ops a.tmps) = true then Oper.wp Tryz.prog o a w K Q else E := by
  have hw : Region.wanted o (yielded ops a.tmps) = true := by simp [Region.wanted, hgd]
  rw [if_pos hw]
  exact wp_app s x ho base v xs hs hown ad c ys n hn hx hr hn0 hlen hbase h
/-- append, in a list of operations. -/
theorem wpList_app {ops : Array Oper} {rest : List Oper} (hgd : o.guard = none) (s x : Operand) (ho : o.op = .call { callee := .builtin .append, args := #[s, x], argTypes := #[25, 25] })
    (base : Nat) (v : Value) (xs : List (List UInt8)) (hs : a.eval s = v) (hown : OwT w base v xs) (ad : Option Addr) (c : Nat) (ys : List (List UInt8)) (n : Nat) (hn : n = ys.length) (hx : a.eval x = .slice ad n c)
    (hr : RdT w ad ys) (hn0 : ad = none → c = 0) (hlen : xs.length + ys.length ≤ 100000000) (hbase : base ≤ w.heap.size)
    (h : ∀ a' c' w', OwT w' base (.slice a' (xs ++ ys).length c') (xs ++ ys) → Ch (fun j => v.ownBlock = some j) w w' → wpList Tryz.prog ops Q rest (a.put o.dst (.slice a' (xs ++ ys).length c')) w') : wpList Tryz.prog ops Q (o :: rest) a w :=
  wpList_plain hgd fun _ hK => wp_app s x ho base v xs hs hown ad c ys n hn hx hr hn0 hlen hbase fun a' c' w' h2 h3 => hK _ _ (h a' c' w' h2 h3)
end
/-- A slice that a call made itself, as a reader finds it. -/
structure Sl (w : World) (base : Nat) (a : Option Addr) (c : Nat) (xs : List (List UInt8)) : Prop where
  rd : RdT w a xs
  nil : a = none → c = 0
  new : ∀ ad, a = some ad → base ≤ ad.block ∧ ad.block < w.heap.size
theorem sl_of {w : World} {base : Nat} {a : Option Addr} {n c : Nat} {xs : List (List UInt8)} (h : OwT w base (.slice a n c) xs) : Sl w base a c xs := by
  obtain ⟨a', c', hv, h1, h2, h3⟩ := h.rd
  cases hv
  exact ⟨h1, h2, h3⟩
theorem Sl.frame {w w' : World} {base : Nat} {a : Option Addr} {c : Nat} {xs : List (List UInt8)} (h : Sl w base a c xs) (hb : Below w.heap.size w w') : Sl w' base a c xs :=
  ⟨h.rd.new hb, h.nil, fun ad e => ⟨(h.new ad e).1, Nat.lt_of_lt_of_le (h.new ad e).2 hb.size⟩⟩
theorem Sl.mono {w : World} {base base' : Nat} {a : Option Addr} {c : Nat} {xs : List (List UInt8)} (h : Sl w base a c xs) (hb : base' ≤ base) : Sl w base' a c xs :=
  ⟨h.rd, h.nil, fun ad e => ⟨Nat.le_trans hb (h.new ad e).1, (h.new ad e).2⟩⟩

/-- One list, copied. -/
theorem copy_run (w : World) (a : Option Addr) (ca : Nat) (xs : List (List UInt8)) (ha : RdT w a xs) (na : a = none → ca = 0) (hx : xs.length ≤ 100000) :
    ∃ a1 c1 w1, (Builtin.append_ #[25, 25] 25 #[.slice (some ⟨w.heap.size, 0, none⟩) 0 0, .slice a xs.length ca]).run Tryz.prog (w.alloc (.cells #[] 9)) = .ok (.slice a1 xs.length c1) w1 ∧
      OwT w1 w.heap.size (.slice a1 xs.length c1) xs ∧ Below w.heap.size w w1 := by
  have hB0 : Below w.heap.size w (w.alloc (.cells #[] 9)) := (Below.refl _ _).alloc (Nat.le_refl _) _
  have hz0 := hB0.size
  obtain ⟨a1, c1, w1, h1, h2, h3⟩ := append_run_ty 25 (w.alloc (.cells #[] 9)) w.heap.size _ [] (OwT.empty w w.heap.size (Nat.le_refl _)) a ca xs (ha.new hB0) na (by simp; omega) (by simp)
  rw [List.nil_append] at h2
  rw [List.length_nil, Nat.zero_add] at h1 h2
  have hC1 : Ch (fun j => w.heap.size ≤ j) (w.alloc (.cells #[] 9)) w1 := h3.mono fun j _ hj => by
    have : w.heap.size = j := Option.some.inj hj
    omega
  exact ⟨a1, c1, w1, h1, h2, hB0.trans (hC1.below hz0 fun k hk hge => by omega)⟩
/-- A list behind one that the call made. -/
theorem then_run (w w1 : World) (a1 : Option Addr) (c1 : Nat) (xs : List (List UInt8)) (h2 : OwT w1 w.heap.size (.slice a1 xs.length c1) xs) (hB1 : Below w.heap.size w w1) (b : Option Addr) (cb : Nat) (ys : List (List UInt8)) (hb : RdT w1 b ys) (nb : b = none → cb = 0) (hx : xs.length ≤ 100000) (hy : ys.length ≤ 100000) :
    ∃ a2 c2 w2, (Builtin.append_ #[25, 25] 25 #[.slice a1 xs.length c1, .slice b ys.length cb]).run Tryz.prog w1 = .ok (.slice a2 (xs ++ ys).length c2) w2 ∧ OwT w2 w.heap.size (.slice a2 (xs ++ ys).length c2) (xs ++ ys) ∧ Below w.heap.size w w2 := by
  obtain ⟨a2, c2, w2, h4, h5, h7⟩ := append_run_ty 25 w1 w.heap.size _ xs h2 b cb ys hb nb (by omega) hB1.size
  have hC2 : Ch (fun j => w.heap.size ≤ j) w1 w2 := h7.mono fun j _ hj => (h2.own j hj).1
  exact ⟨a2, c2, w2, by rw [List.length_append]; exact h4, by rw [List.length_append]; exact h5, hB1.trans (hC2.below hB1.size fun k hk hge => by omega)⟩
/-- A text in a row of its own. -/
theorem one_rd (w : World) (t : List UInt8) : RdT (w.alloc (.cells #[.string (txt t)] 9)) (some ⟨w.heap.size, 0, none⟩) [t] := fun i hi => by
  have h0 : i = 0 := by simpa using hi
  subst h0
  refine ⟨w.heap.size, 0, rfl, ?_⟩
  exact cell_of_row _ _ 0 _ _ _ (F5.srow w _ rfl t)
end
/-- The document's store, and where its lists lie. -/
structure DS where
  ka : Option Addr
  kc : Nat
  K : List (List UInt8)
  R : List UInt8
  na : Option Addr
  nc : Nat
  N : List (List UInt8)
def DS.cells (s : DS) : Array Value := #[.slice s.ka s.K.length s.kc, .string (txt s.R), .slice s.na s.N.length s.nc]
/-- Its lists can be read; they lie in blocks of Q. -/
structure DS.In (s : DS) (w : World) (Q : Nat → Prop) : Prop where
  k : RdT w s.ka s.K
  n : RdT w s.na s.N
  kn : s.ka = none → s.kc = 0
  nn : s.na = none → s.nc = 0
  kq : ∀ ad, s.ka = some ad → Q ad.block ∧ ad.block < w.heap.size
  nq : ∀ ad, s.na = some ad → Q ad.block ∧ ad.block < w.heap.size
/-- It lies in this block. -/
def DAt (w : World) (b : Nat) (s : DS) : Prop := w.heap[b]? = some (.cells s.cells 49 (0, 0))
theorem DS.In.keep {s : DS} {w w' : World} {P Q : Nat → Prop} (h : s.In w Q) (hc : Ch P w w') (hq : ∀ k, Q k → ¬ P k) : s.In w' Q :=
  ⟨h.k.keep hc fun ad e => hq _ (h.kq ad e).1, h.n.keep hc fun ad e => hq _ (h.nq ad e).1, h.kn, h.nn, fun ad e => ⟨(h.kq ad e).1, Nat.lt_of_lt_of_le (h.kq ad e).2 hc.size⟩, fun ad e => ⟨(h.nq ad e).1, Nat.lt_of_lt_of_le (h.nq ad e).2 hc.size⟩⟩
theorem DS.In.new {s : DS} {w w' : World} {Q : Nat → Prop} (h : s.In w Q) (hb : Below w.heap.size w w') : s.In w' Q := h.keep (Ch.of_new (S := fun _ => False) hb) fun _ _ => id
theorem DS.In.mono {s : DS} {w : World} {Q Q' : Nat → Prop} (h : s.In w Q) (hq : ∀ k, k < w.heap.size → Q k → Q' k) : s.In w Q' :=
  ⟨h.k, h.n, h.kn, h.nn, fun ad e => ⟨hq _ (h.kq ad e).2 (h.kq ad e).1, (h.kq ad e).2⟩, fun ad e => ⟨hq _ (h.nq ad e).2 (h.nq ad e).1, (h.nq ad e).2⟩⟩
section
variable {w w' : World} {b : Nat} {s : DS}
theorem DAt.c0 (h : DAt w b s) : w.cell? ⟨b, 0, none⟩ = some (.slice s.ka s.K.length s.kc) := cell_of_row _ _ _ _ _ _ h
theorem DAt.c1 (h : DAt w b s) : w.cell? ⟨b, 1, none⟩ = some (.string (txt s.R)) := cell_of_row _ _ _ _ _ _ h
theorem DAt.c2 (h : DAt w b s) : w.cell? ⟨b, 2, none⟩ = some (.slice s.na s.N.length s.nc) := cell_of_row _ _ _ _ _ _ h
theorem DAt.fr (h : DAt w b s) (i : Nat) : w.frozen? ⟨b, i, none⟩ = false := frozen_of_row _ _ _ _ _ h
theorem DAt.lt (h : DAt w b s) : b < w.heap.size := F5.lt_of_heap h
theorem DAt.keep {P : Nat → Prop} (h : DAt w b s) (hc : Ch P w w') (hs : ¬ P b) : DAt w' b s := (hc.block b h.lt hs).trans h
theorem DAt.new (h : DAt w b s) (hb : Below w.heap.size w w') : DAt w' b s := (hb.block b h.lt).trans h
theorem DAt.upd {s' : DS} (h : DAt w b s) (i : Nat) (x : Value) (he : s.cells.setIfInBounds i x = s'.cells) : DAt (w.setCell ⟨b, i, none⟩ x) b s' := by
  unfold DAt
  rw [← he]
  exact heap_setCell_same w b i s.cells 49 x h
end
end Go.Proofs.YtogihpofkjpokaaGreatDoor
namespace Go.Proofs.YtogihpofkjpokaaGreatDoor
open Go Go.RowKit
open F5 (txt txt_size data_txt RdT OwT)

set_option maxRecDepth 100000 in
set_option maxHeartbeats 2000000 in
theorem rhas_any {w : World} {a : Option Addr} {c : Nat} {xs : List (List UInt8)} (hR : RdT w a xs) (hlen : xs.length ≤ 100000) (t : List UInt8) :
    Calls Tryz.prog 43 #[.slice a xs.length c, .string (txt t)] w fun e w' => e = .returned (.bool (decide (t ∈ xs))) ∧ w' = w := by
  have hl' : (xs.length : Int) ≤ 100000 := by omega
  have HR := Lib.hid hR
  clear hR
  go_enter Tryz.func43, Tryz.ntmps43
  go_wp2
  go_loopw [5] (fun i wr => ∃ ii : Nat, i = .int .i64 (ii : Int) ∧ ii ≤ xs.length ∧ Hid (∀ j, j < ii → xs.getD j [] ≠ t) ∧ wr = w) (fun i _ => xs.length - (intOf i).toNat)
  case atStart => exact ⟨0, rfl, Nat.zero_le _, Lib.hid (fun j hj => by omega), rfl⟩
  case round =>
    obtain ⟨ii, rfl, hi, HX, hw⟩ := hrel
    subst hw
    by_cases hlt : ii < xs.length
    · have hlt' : (ii : Int) < (xs.length : Int) := by omega
      have hi0 : (0 : Int) ≤ (ii : Int) := by omega
      obtain ⟨b, off, rfl, hc1⟩ := HR.out ii hlt
      by_cases he : xs.getD ii [] = t
      · rw [he] at hc1
        have hm : Hid (decide (t ∈ xs) = true) := Lib.hid (decide_eq_true (by
          rw [F5.getD_at hlt] at he
          rw [← he]; exact List.getElem_mem hlt))
        clear he
        generalize txt t = tt at hc1
        go_wp2
        go_ret
        rw [hm.out]
        exact ⟨rfl, rfl⟩
      · have hne : ((txt (xs.getD ii [])).toList == (txt t).toList) = false := by rw [F5.txt_eq]; exact decide_eq_false he
        have HX2 : Hid (∀ j, j < ii + 1 → xs.getD j [] ≠ t) := Lib.hid fun j hj => by
          by_cases e : j = ii
          · rw [e]; exact he
          · exact HX.out j (by omega)
        have hne2 : ¬ txt (xs.getD ii []) = txt t := fun e => he (F5.txt_inj e)
        clear he
        generalize txt (xs.getD ii []) = tx at hc1 hne hne2
        generalize txt t = tt at hne hne2 ⊢
        go_wp2
        go_roundw
        case rel => exact ⟨ii + 1, by go_num, by omega, HX2, trivial⟩
        case measure => simp [intOf]; omega
    · have hlt' : (xs.length : Int) ≤ (ii : Int) := by omega
      have e : ii = xs.length := by omega
      have hm : Hid (decide (t ∈ xs) = false) := Lib.hid (decide_eq_false fun hm => by
        obtain ⟨j, hj, he⟩ := List.getElem_of_mem hm
        exact HX.out j (by omega) (by rw [F5.getD_at hj]; exact he))
      go_wp2
      go_ret
      rw [hm.out]
      exact ⟨rfl, rfl⟩
end Go.Proofs.YtogihpofkjpokaaGreatDoor
namespace Go.Proofs.YtogihpofkjpokaaGreatDoor
open Go Go.RowKit Go.Maps
open D4 (put Asc)

/-- Texts of which no two unlike ones have one fingerprint. -/
def NoClash (T : List (List UInt8)) : Prop := ∀ s ∈ T, ∀ t ∈ T, sha s = sha t → s = t
/-- A list of texts as a pile. -/
def mkT (K : List (List UInt8)) : Tx := K.foldl (fun k t => put (sha t) t k) []
theorem mkT_snoc (K : List (List UInt8)) (t : List UInt8) : mkT (K ++ [t]) = put (sha t) t (mkT K) := by unfold mkT; rw [List.foldl_append]; rfl
theorem snoc_ind {P : List (List UInt8) → Prop} (h0 : P []) (h1 : ∀ K t, P K → P (K ++ [t])) (K : List (List UInt8)) : P K := by
  have key : ∀ n, ∀ L : List (List UInt8), L.length = n → P L := by
    intro n
    induction n with
    | zero => intro L hL; rw [List.length_eq_zero_iff.1 hL]; exact h0
    | succ n ih =>
      intro L hL
      have hne : L ≠ [] := fun e => by rw [e] at hL; cases hL
      rw [← List.dropLast_concat_getLast hne]
      exact h1 _ _ (ih _ (by rw [List.length_dropLast, hL]; rfl))
  exact key _ K rfl
theorem mkT_asc (K : List (List UInt8)) : Asc (mkT K) := by
  refine snoc_ind (P := fun K => Asc (mkT K)) List.Pairwise.nil (fun K t ih => ?_) K
  rw [mkT_snoc]; exact D4.put_asc ih
/-- What stands at a fingerprint. -/
theorem mkT_look {T : List (List UInt8)} (hT : NoClash T) (p : List UInt8) (K : List (List UInt8)) : (∀ x ∈ K, x ∈ T) → ∀ t, D4.look p (mkT K) = some t ↔ (t ∈ K ∧ sha t = p) := by
  refine snoc_ind (P := fun K => (∀ x ∈ K, x ∈ T) → ∀ t, D4.look p (mkT K) = some t ↔ (t ∈ K ∧ sha t = p)) (fun _ t => by simp [mkT, D4.look]) (fun K x ih hK t => ?_) K
  have hxT := hK x (by simp)
  have ih := ih (fun y hy => hK y (by simp [hy])) t
  rw [mkT_snoc, D4.look_put _ _ _ _ (mkT_asc K)]
  by_cases e : sha x = p
  · rw [if_pos e]
    constructor
    · intro h; cases h; exact ⟨by simp, e⟩
    · rintro ⟨h1, h2⟩
      have : t = x := by
        refine hT t (hK t h1) x hxT (by rw [h2, e])
      rw [this]
  · rw [if_neg e, ih]
    constructor
    · rintro ⟨h1, h2⟩; exact ⟨by simp [h1], h2⟩
    · rintro ⟨h1, h2⟩
      rcases List.mem_append.1 h1 with h1 | h1
      · exact ⟨h1, h2⟩
      · rw [List.mem_singleton.1 h1] at h2; exact absurd h2 e
theorem look_has {T : List (List UInt8)} (hT : NoClash T) {K : List (List UInt8)} (hK : ∀ x ∈ K, x ∈ T) {t : List UInt8} (ht : t ∈ T) : (D4.look (sha t) (mkT K)).isSome = decide (t ∈ K) := by
  by_cases h : t ∈ K
  · rw [decide_eq_true h, (mkT_look hT (sha t) K hK t).2 ⟨h, rfl⟩]; rfl
  · rw [decide_eq_false h]
    cases hl : D4.look (sha t) (mkT K) with
    | none => rfl
    | some x =>
      have h1 := (mkT_look hT (sha t) K hK x).1 hl
      have := hT x (hK x h1.1) t ht h1.2
      rw [this] at h1
      exact absurd h1.1 h
/-- The document's fingerprints, rising. -/
def rins (p : List UInt8) : List (List UInt8) → List (List UInt8)
  | [] => [p]
  | q :: r => if bytesBefore p q then p :: q :: r else q :: rins p r
def rprints (K : List (List UInt8)) : List (List UInt8) := K.foldl (fun out t => rins (sha t) out) []
theorem put_keys (n a : List UInt8) : ∀ l : Tx, (∀ q ∈ l, q.1 ≠ n) → (put n a l).map (·.1) = rins n (l.map (·.1))
  | [], _ => rfl
  | p :: r, h => by
    unfold put
    rw [if_neg (h p (by simp)), List.map_cons]
    unfold rins
    split
    · simp
    · rw [List.map_cons, put_keys n a r fun q hq => h q (by simp [hq])]
theorem mkT_keys {T : List (List UInt8)} (hT : NoClash T) (K : List (List UInt8)) : (∀ x ∈ K, x ∈ T) → K.Nodup → (mkT K).map (·.1) = rprints K := by
  refine snoc_ind (P := fun K => (∀ x ∈ K, x ∈ T) → K.Nodup → (mkT K).map (·.1) = rprints K) (fun _ _ => rfl) (fun K t ih hK hn => ?_) K
  have hK' : ∀ x ∈ K, x ∈ T := fun x hx => hK x (by simp [hx])
  have hn' := List.nodup_append.1 hn
  have ht : t ∉ K := fun h => hn'.2.2 t h t (by simp) rfl
  have hnone : D4.look (sha t) (mkT K) = none := by
    have := look_has hT hK' (hK t (by simp))
    rw [decide_eq_false ht] at this
    cases hl : D4.look (sha t) (mkT K) with
    | none => rfl
    | some x => rw [hl] at this; cases this
  rw [mkT_snoc, put_keys _ _ _ (D4.look_none hnone), ih hK' hn'.1]
  unfold rprints
  rw [List.foldl_append]
  rfl
/-- A Commit. -/
theorem mkT_app {T : List (List UInt8)} (hT : NoClash T) {K N : List (List UInt8)} (hK : ∀ x ∈ K, x ∈ T) (hN : ∀ x ∈ N, x ∈ T) : putAll (mkT K) (mkT N) = mkT (K ++ N) := by
  have hKN : ∀ x ∈ K ++ N, x ∈ T := fun x hx => (List.mem_append.1 hx).elim (hK x) (hN x)
  refine D4.asc_ext (putAll_asc (mkT_asc K)) (mkT_asc _) fun n => ?_
  rw [look_putAll n (mkT_asc K) (mkT_asc N)]
  cases hN2 : D4.look n (mkT N) with
  | some t =>
    have := (mkT_look hT n N hN t).1 hN2
    rw [(mkT_look hT n (K ++ N) hKN t).2 ⟨List.mem_append.2 (.inr this.1), this.2⟩]; rfl
  | none =>
    cases hK2 : D4.look n (mkT K) with
    | some t =>
      have := (mkT_look hT n K hK t).1 hK2
      rw [(mkT_look hT n (K ++ N) hKN t).2 ⟨List.mem_append.2 (.inl this.1), this.2⟩]; rfl
    | none =>
      cases h2 : D4.look n (mkT (K ++ N)) with
      | none => rfl
      | some t =>
        exfalso
        have h3 := (mkT_look hT n (K ++ N) hKN t).1 h2
        rcases List.mem_append.1 h3.1 with h4 | h4
        · rw [(mkT_look hT n K hK t).2 ⟨h4, h3.2⟩] at hK2; cases hK2
        · rw [(mkT_look hT n N hN t).2 ⟨h4, h3.2⟩] at hN2; cases hN2
/-- What the program's store says beside the document's. -/
structure Link (T : List (List UInt8)) (a : Ab) (K N : List (List UInt8)) (R : List UInt8) : Prop where
  kept : a.kept = mkT K
  fresh : a.fresh = mkT N
  root : a.root = R
  nodup : (K ++ N).Nodup
  inT : ∀ x ∈ K ++ N, x ∈ T
theorem Link.has {T : List (List UInt8)} {a : Ab} {K N : List (List UInt8)} {R : List UInt8} (h : Link T a K N R) (hT : NoClash T) {t : List UInt8} (ht : t ∈ T) : (a.get (sha t)).isSome = (decide (t ∈ K) || decide (t ∈ N)) := by
  have h1 := look_has hT (fun x hx => h.inT x (List.mem_append.2 (.inl hx))) ht
  have h2 := look_has hT (fun x hx => h.inT x (List.mem_append.2 (.inr hx))) ht
  unfold Ab.get
  rw [h.kept, h.fresh, ← h1, ← h2]
  cases D4.look (sha t) (mkT K) <;> simp
theorem Link.put {T : List (List UInt8)} {a : Ab} {K N : List (List UInt8)} {R : List UInt8} (h : Link T a K N R) (hT : NoClash T) {t : List UInt8} (ht : t ∈ T) : Link T (a.putF t) K (if t ∈ K ∨ t ∈ N then N else N ++ [t]) R := by
  have hh := h.has hT ht
  unfold Ab.putF
  by_cases hm : t ∈ K ∨ t ∈ N
  · rw [if_pos hm]
    have e : (a.get (sha t)).isSome = true := by rw [hh]; rcases hm with hm | hm <;> simp [hm]
    rw [if_pos e]; exact h
  · rw [if_neg hm]
    have hK : t ∉ K := fun e => hm (.inl e)
    have hN : t ∉ N := fun e => hm (.inr e)
    have e : ¬ (a.get (sha t)).isSome = true := by rw [hh]; simp [hK, hN]
    rw [if_neg e]
    refine ⟨h.kept, by show D4.put (sha t) t a.fresh = _; rw [mkT_snoc, h.fresh], h.root, ?_, fun x hx => ?_⟩
    · rw [← List.append_assoc, List.nodup_append]
      refine ⟨h.nodup, by simp, fun x hx y hy => ?_⟩
      rw [List.mem_singleton.1 hy]
      rintro rfl
      exact (List.mem_append.1 hx).elim hK hN
    · rw [← List.append_assoc] at hx
      rcases List.mem_append.1 hx with hx | hx
      · exact h.inT x hx
      · rw [List.mem_singleton.1 hx]; exact ht
theorem Link.done {T : List (List UInt8)} {a : Ab} {K N : List (List UInt8)} {R : List UInt8} (h : Link T a K N R) (hT : NoClash T) (r : List UInt8) : Link T (a.done r) (K ++ N) [] r := by
  have e : putAll a.kept a.fresh = mkT (K ++ N) := by rw [h.kept, h.fresh]; exact mkT_app hT (fun x hx => h.inT x (List.mem_append.2 (.inl hx))) (fun x hx => h.inT x (List.mem_append.2 (.inr hx)))
  have h1 : (a.done r).kept = putAll a.kept a.fresh ∧ (a.done r).fresh = [] ∧ (a.done r).root = r := by unfold Ab.done; split <;> exact ⟨rfl, rfl, rfl⟩
  exact ⟨by rw [h1.1, e], by rw [h1.2.1]; rfl, h1.2.2, by rw [List.append_nil]; exact h.nodup, by rw [List.append_nil]; exact h.inT⟩
end Go.Proofs.YtogihpofkjpokaaGreatDoor
namespace Go.Proofs.YtogihpofkjpokaaGreatDoor
open Go Go.RowKit Go.Maps
open D4 (put Asc)

section
variable {T : List (List UInt8)} {a : Ab} {K N : List (List UInt8)} {R : List UInt8}
theorem Link.inK (h : Link T a K N R) : ∀ x ∈ K, x ∈ T := fun x hx => h.inT x (List.mem_append.2 (.inl hx))
theorem Link.inN (h : Link T a K N R) : ∀ x ∈ N, x ∈ T := fun x hx => h.inT x (List.mem_append.2 (.inr hx))
theorem Link.drop (h : Link T a K N R) : Link T a.drop K [] R :=
  ⟨h.kept, rfl, h.root, by rw [List.append_nil]; exact (List.nodup_append.1 h.nodup).1, fun x hx => h.inT x (by rw [List.append_nil] at hx; exact List.mem_append.2 (.inl hx))⟩
theorem Link.out (h : Link T a K N R) : Link T a.out K N R := ⟨h.kept, h.fresh, h.root, h.nodup, h.inT⟩
/-- Each text of the document's is found. -/
theorem Link.get (h : Link T a K N R) (hT : NoClash T) {t : List UInt8} (ht : t ∈ K ++ N) : a.get (sha t) = some t := by
  have hd := List.nodup_append.1 h.nodup
  unfold Ab.get
  rw [h.kept, h.fresh]
  rcases List.mem_append.1 ht with hk | hn
  · rw [(mkT_look hT (sha t) K h.inK t).2 ⟨hk, rfl⟩]; rfl
  · have e : D4.look (sha t) (mkT K) = none := by
      have := look_has hT h.inK (h.inN t hn)
      rw [decide_eq_false (fun hk => hd.2.2 t hk t hn rfl)] at this
      cases hl : D4.look (sha t) (mkT K) with
      | none => rfl
      | some x => rw [hl] at this; cases this
    rw [e, (mkT_look hT (sha t) N h.inN t).2 ⟨hn, rfl⟩]; rfl
theorem Link.prints (h : Link T a K N R) (hT : NoClash T) : a.kept.map (·.1) = rprints K := by rw [h.kept]; exact mkT_keys hT K h.inK (List.nodup_append.1 h.nodup).1
end
/-- The document's Collect: what rests of the fingerprints, in their order; none, if one is of nothing. -/
def colOne (K : List (List UInt8)) (p : List UInt8) (l : List (List UInt8)) : List (List UInt8) := K.foldl (fun l t => if sha t = p ∧ t ∉ l then l ++ [t] else l) l
def rcolStep (K : List (List UInt8)) (o : Option (List (List UInt8))) (p : List UInt8) : Option (List (List UInt8)) := match o with
  | none => none
  | some l => if ∃ t ∈ K, sha t = p then some (colOne K p l) else none
def rcol (K ps : List (List UInt8)) : Option (List (List UInt8)) := ps.foldl (rcolStep K) (some [])
theorem colOne_no {p : List UInt8} : ∀ (K l : List (List UInt8)), (∀ t ∈ K, sha t ≠ p) → colOne K p l = l
  | [], _, _ => rfl
  | x :: K, l, h => by
    unfold colOne
    rw [List.foldl_cons, if_neg (fun e => h x (by simp) e.1)]
    exact colOne_no K l fun t ht => h t (by simp [ht])
/-- Of one fingerprint there is one text at most. -/
theorem colOne_at {T : List (List UInt8)} (hT : NoClash T) {t : List UInt8} : ∀ (K l : List (List UInt8)), (∀ x ∈ K, x ∈ T) → K.Nodup → t ∈ K → colOne K (sha t) l = if t ∈ l then l else l ++ [t]
  | [], _, _, _, h => by cases h
  | x :: K, l, hK, hn, h => by
    have hn' := List.nodup_cons.1 hn
    unfold colOne
    rw [List.foldl_cons]
    by_cases e : x = t
    · subst e
      have hno : ∀ y ∈ K, sha y ≠ sha x := fun y hy e => by
        have := hT y (hK y (by simp [hy])) x (hK x (by simp)) e
        exact hn'.1 (this ▸ hy)
      have hr := fun l' => colOne_no K l' hno
      unfold colOne at hr
      rw [hr]
      by_cases hl : x ∈ l
      · rw [if_pos hl, if_neg (fun e => e.2 hl)]
      · rw [if_neg hl, if_pos ⟨rfl, hl⟩]
    · have ht : t ∈ K := by
        rcases List.mem_cons.1 h with h | h
        · exact absurd h.symm e
        · exact h
      have hne : ¬ (sha x = sha t ∧ x ∉ l) := fun h => e (hT x (hK x (by simp)) t (hK t (by simp [ht])) h.1)
      rw [if_neg hne]
      exact colOne_at hT K l (fun y hy => hK y (by simp [hy])) hn'.2 ht
end Go.Proofs.YtogihpofkjpokaaGreatDoor
namespace Go.Proofs.YtogihpofkjpokaaGreatDoor
open Go Go.RowKit Go.Maps
open D4 (put Asc)

theorem rcol_none (K : List (List UInt8)) : ∀ ps : List (List UInt8), ps.foldl (rcolStep K) none = none
  | [] => rfl
  | _ :: ps => rcol_none K ps
theorem col_link {T K : List (List UInt8)} (hT : NoClash T) (hK : ∀ x ∈ K, x ∈ T) (hn : K.Nodup) : ∀ (ps l : List (List UInt8)), (∀ x ∈ l, x ∈ K) → l.Nodup →
    ps.foldl (restStep (mkT K)) (some (mkT l)) = (ps.foldl (rcolStep K) (some l)).map mkT ∧ ∀ l', ps.foldl (rcolStep K) (some l) = some l' → (∀ x ∈ l', x ∈ K) ∧ l'.Nodup
  | [], l, hl, hd => ⟨rfl, fun l' e => by cases e; exact ⟨hl, hd⟩⟩
  | p :: ps, l, hl, hd => by
    rw [List.foldl_cons, List.foldl_cons]
    cases hlk : D4.look p (mkT K) with
    | none =>
      have h1 : restStep (mkT K) (some (mkT l)) p = none := by unfold restStep; rw [hlk]
      have h2 : rcolStep K (some l) p = none := by
        unfold rcolStep
        refine if_neg ?_
        rintro ⟨t, ht, e⟩
        rw [(mkT_look hT p K hK t).2 ⟨ht, e⟩] at hlk
        cases hlk
      rw [h1, h2, rest_none, rcol_none]
      exact ⟨rfl, fun l' e => by cases e⟩
    | some t =>
      obtain ⟨ht, rfl⟩ := (mkT_look hT p K hK t).1 hlk
      have h1 : restStep (mkT K) (some (mkT l)) (sha t) = some (put (sha t) t (mkT l)) := by unfold restStep; rw [hlk]
      have h2 : rcolStep K (some l) (sha t) = some (if t ∈ l then l else l ++ [t]) := by
        have hex : ∃ x ∈ K, sha x = sha t := ⟨t, ht, rfl⟩
        have e : rcolStep K (some l) (sha t) = some (colOne K (sha t) l) := if_pos hex
        rw [e, colOne_at hT K l hK hn ht]
      rw [h1, h2]
      by_cases hm : t ∈ l
      · rw [if_pos hm]
        have hs : D4.look (sha t) (mkT l) = some t := (mkT_look hT (sha t) l (fun x hx => hK x (hl x hx)) t).2 ⟨hm, rfl⟩
        rw [D4.put_same hs (mkT_asc l)]
        exact col_link hT hK hn ps l hl hd
      · rw [if_neg hm, ← mkT_snoc]
        refine col_link hT hK hn ps (l ++ [t]) (fun x hx => ?_) ?_
        · rcases List.mem_append.1 hx with hx | hx
          · exact hl x hx
          · rw [List.mem_singleton.1 hx]; exact ht
        · rw [List.nodup_append]
          refine ⟨hd, by simp, fun x hx y hy => ?_⟩
          rw [List.mem_singleton.1 hy]
          rintro rfl
          exact hm hx
section
variable {T : List (List UInt8)} {a : Ab} {K N : List (List UInt8)} {R : List UInt8}
theorem Link.rest (h : Link T a K N R) (hT : NoClash T) (ps : List (List UInt8)) : restOf a.kept ps = (rcol K ps).map mkT := by
  rw [h.kept]
  exact (col_link hT h.inK (List.nodup_append.1 h.nodup).1 ps [] (by simp) (by simp)).1
/-- What rests, with what is new. -/
theorem Link.less (h : Link T a K N R) (hT : NoClash T) {ps l : List (List UInt8)} (e : rcol K ps = some l) : Link T (a.less (mkT l)) l N R := by
  have hd := List.nodup_append.1 h.nodup
  obtain ⟨h1, h2⟩ := (col_link hT h.inK hd.1 ps [] (by simp) (by simp)).2 l e
  refine ⟨rfl, h.fresh, h.root, ?_, fun x hx => ?_⟩
  · rw [List.nodup_append]
    exact ⟨h2, hd.2.1, fun x hx y hy => hd.2.2 x (h1 x hx) y hy⟩
  · rcases List.mem_append.1 hx with hx | hx
    · exact h.inK x (h1 x hx)
    · exact h.inN x hx
end
end Go.Proofs.YtogihpofkjpokaaGreatDoor
namespace Go.Proofs.YtogihpofkjpokaaGreatDoor
open Go Go.RowKit
open F5 (txt txt_size data_txt RdT OwT)
attribute [-go_sem] Builtin.append_

/-- What a Put makes of the new ones. -/
def putN (K N : List (List UInt8)) (t : List UInt8) : List (List UInt8) := if t ∈ K ∨ t ∈ N then N else N ++ [t]
set_option maxRecDepth 100000 in
set_option maxHeartbeats 2000000 in
theorem rput_any {w : World} {b : Nat} {s : DS} {Q : Nat → Prop} (h : DAt w b s) (hI : s.In w Q) (hqb : ¬ Q b) (hk : s.K.length ≤ 1000) (hn : s.N.length ≤ 1000) (t : List UInt8) :
    Calls Tryz.prog 21 #[.pointer (some ⟨b, 0, none⟩), .string (txt t)] w fun e w' => e = .returned (.tuple #[]) ∧ ∃ s', DAt w' b s' ∧ s'.In w' (fun k => Q k ∨ w.heap.size ≤ k) ∧ s'.K = s.K ∧ s'.R = s.R ∧ s'.N = putN s.K s.N t ∧ Ch (fun k => k = b) w w' := by
  obtain ⟨ka, kc, K, R, na, nc, N⟩ := s
  have c0 : w.cell? ⟨b, 0, none⟩ = some (.slice ka K.length kc) := h.c0
  have c2 : w.cell? ⟨b, 2, none⟩ = some (.slice na N.length nc) := h.c2
  have P := Lib.hid (rhas_any (c := kc) hI.k (by have : K.length ≤ 1000 := hk; omega) t)
  have P2 := Lib.hid (rhas_any (c := nc) hI.n (by have : N.length ≤ 1000 := hn; omega) t)
  simp only at P P2
  have hbw := h.lt
  have hkeep : Hid (DS.In ⟨ka, kc, K, R, na, nc, N⟩ w fun k => Q k ∨ w.heap.size ≤ k) := Lib.hid (hI.mono fun _ _ => .inl)
  have HH := Lib.hid h
  unfold putN
  simp only
  by_cases h1 : t ∈ K
  · rw [decide_eq_true h1] at P
    rw [if_pos (.inl h1)]
    clear P2 h hI h1
    generalize txt t = tt at P ⊢
    go_enter Tryz.func21, Tryz.ntmps21
    go_wp2_with (go_at_call 43; (with_reducible refine P.out.mono ?_); rintro e w1 ⟨rfl, hw1⟩; subst w1)
    go_end0
    exact ⟨rfl, _, HH.out, hkeep.out, rfl, rfl, rfl, Ch.refl _ _⟩
  rw [decide_eq_false h1] at P
  by_cases h2 : t ∈ N
  · rw [decide_eq_true h2] at P2
    rw [if_pos (.inr h2)]
    clear h hI h1 h2
    generalize txt t = tt at P P2 ⊢
    go_enter Tryz.func21, Tryz.ntmps21
    go_wp2_with (first
      | (go_at_call 43; (with_reducible refine P.out.mono ?_); rintro e w1 ⟨rfl, hw1⟩; subst w1)
      | (go_at_call 43; (with_reducible refine P2.out.mono ?_); rintro e w1 ⟨rfl, hw1⟩; subst w1))
    go_end0
    exact ⟨rfl, _, HH.out, hkeep.out, rfl, rfl, rfl, Ch.refl _ _⟩
  · rw [decide_eq_false h2] at P2
    rw [if_neg (fun e => e.elim h1 h2)]
    obtain ⟨a1, c1, w1, u1, o1, b1⟩ := copy_run w na nc N hI.n hI.nn (by have : N.length ≤ 1000 := hn; omega)
    have b1' : Below w.heap.size w (w1.alloc (.cells #[.string (txt t)] 9)) := b1.alloc b1.size _
    obtain ⟨a2, d2, w2, u2, o2, b2⟩ := then_run w (w1.alloc (.cells #[.string (txt t)] 9)) a1 c1 N (o1.new ((Below.refl _ _).alloc (Nat.le_refl _) _)) b1' (some ⟨w1.heap.size, 0, none⟩) 1 [t] (one_rd w1 t) (fun e => by cases e) (by have : N.length ≤ 1000 := hn; omega) (by simp)
    have u2' : (Builtin.append_ #[25, 25] 25 #[.slice a1 N.length c1, .slice (some ⟨w1.heap.size, 0, none⟩) 1 1]).run Tryz.prog (w1.alloc (.cells #[.string (txt t)] 9)) = .ok (.slice a2 (N ++ [t]).length d2) w2 := u2
    have hD2 : DAt w2 b ⟨ka, kc, K, R, na, nc, N⟩ := h.new b2
    have e2 : w2.cell? ⟨b, 2, none⟩ = some (.slice na N.length nc) := hD2.c2
    have f2 := hD2.fr 2
    have hI2 : DS.In ⟨ka, kc, K, R, na, nc, N⟩ w2 Q := hI.new b2
    have hs := sl_of o2
    have HE : Hid (∃ s', DAt (w2.setCell ⟨b, 2, none⟩ (.slice a2 (N ++ [t]).length d2)) b s' ∧ s'.In (w2.setCell ⟨b, 2, none⟩ (.slice a2 (N ++ [t]).length d2)) (fun k => Q k ∨ w.heap.size ≤ k) ∧ s'.K = K ∧ s'.R = R ∧ s'.N = N ++ [t] ∧ Ch (fun k => k = b) w (w2.setCell ⟨b, 2, none⟩ (.slice a2 (N ++ [t]).length d2))) := Lib.hid (by
      have hc : Ch (fun k => k = b) w2 (w2.setCell ⟨b, 2, none⟩ (.slice a2 (N ++ [t]).length d2)) := Ch.setCell _ _ _ fun _ => rfl
      refine ⟨⟨ka, kc, K, R, a2, d2, N ++ [t]⟩, hD2.upd 2 _ rfl, ?_, rfl, rfl, rfl, (Ch.of_new b2).tr hc⟩
      have hz : (w2.setCell ⟨b, 2, none⟩ (.slice a2 (N ++ [t]).length d2)).heap.size = w2.heap.size := by simp [World.setCell]
      exact ⟨hI2.k.keep hc (fun ad e he => hqb (he ▸ (hI2.kq ad e).1)), hs.rd.keep hc (fun ad e he => by have := (hs.new ad e).1; omega), hI2.kn, hs.nil, fun ad e => ⟨.inl (hI2.kq ad e).1, by rw [hz]; exact (hI2.kq ad e).2⟩, fun ad e => ⟨.inr (hs.new ad e).1, by rw [hz]; exact (hs.new ad e).2⟩⟩)
    clear h hI h1 h2 o1 o2 b1 b1' b2 hI2 hs hD2 u2
    generalize (N ++ [t]).length = n2 at *
    generalize txt t = tt at *
    go_enter Tryz.func21, Tryz.ntmps21
    go_wp2_with (first
      | (go_at_call 43; (with_reducible refine P.out.mono ?_); rintro e w1 ⟨rfl, hw1⟩; subst w1)
      | (go_at_call 43; (with_reducible refine P2.out.mono ?_); rintro e w1 ⟨rfl, hw1⟩; subst w1))
    go_end0
    exact ⟨rfl, HE.out⟩
end Go.Proofs.YtogihpofkjpokaaGreatDoor
namespace Go.Proofs.YtogihpofkjpokaaGreatDoor
open Go Go.RowKit
open F5 (txt txt_size data_txt RdT OwT)
attribute [-go_sem] Builtin.append_

set_option maxRecDepth 100000 in
set_option maxHeartbeats 4000000 in
theorem rcommit_any {w : World} {s : DS} {Q : Nat → Prop} (hI : s.In w Q) (hk : s.K.length ≤ 1000) (hn : s.N.length ≤ 1000) (r : List UInt8) :
    Calls Tryz.prog 23 #[.agg s.cells, .string (txt r)] w fun e w' => ∃ a2 c2, e = .returned (.agg #[.slice a2 (s.K ++ s.N).length c2, .string (txt r), .slice none 0 0]) ∧ Sl w' w.heap.size a2 c2 (s.K ++ s.N) ∧ Below w.heap.size w w' := by
  obtain ⟨ka, kc, K, R, na, nc, N⟩ := s
  have hb0 : Below w.heap.size w ((w.alloc (.cells (DS.cells ⟨ka, kc, K, R, na, nc, N⟩) 49)).alloc (.cells #[.slice none 0 0, .string ⟨#[]⟩, .slice none 0 0] 49)) := ((Below.refl _ _).alloc (Nat.le_refl _) _).alloc (by simp) _
  have hI0 := hI.new hb0
  have hD0 : DAt ((w.alloc (.cells (DS.cells ⟨ka, kc, K, R, na, nc, N⟩) 49)).alloc (.cells #[.slice none 0 0, .string ⟨#[]⟩, .slice none 0 0] 49)) w.heap.size ⟨ka, kc, K, R, na, nc, N⟩ := (Below.heap_alloc _ _ _ (by simp)).trans (heap_alloc_new w _)
  have hR0 : ((w.alloc (.cells (DS.cells ⟨ka, kc, K, R, na, nc, N⟩) 49)).alloc (.cells #[.slice none 0 0, .string ⟨#[]⟩, .slice none 0 0] 49)).heap[w.heap.size + 1]? = some (.cells #[.slice none 0 0, .string ⟨#[]⟩, .slice none 0 0] 49 (0, 0)) := by
    have := heap_alloc_new (w.alloc (.cells (DS.cells ⟨ka, kc, K, R, na, nc, N⟩) 49)) (.cells #[.slice none 0 0, .string ⟨#[]⟩, .slice none 0 0] 49)
    rwa [show (w.alloc (.cells (DS.cells ⟨ka, kc, K, R, na, nc, N⟩) 49)).heap.size = w.heap.size + 1 by simp] at this
  have hz0 : ((w.alloc (.cells (DS.cells ⟨ka, kc, K, R, na, nc, N⟩) 49)).alloc (.cells #[.slice none 0 0, .string ⟨#[]⟩, .slice none 0 0] 49)).heap.size = w.heap.size + 2 := by simp
  unfold DS.cells at *
  simp only at *
  obtain ⟨L, hL⟩ : ∃ L, L = K ++ N := ⟨_, rfl⟩
  have HL := Lib.hid hL
  rw [← hL]
  clear hL
  go_enter Tryz.func23, Tryz.ntmps23
  go_wp2_with fail
  generalize (w.alloc (.cells #[.slice ka K.length kc, .string (txt R), .slice na N.length nc] 49)).alloc (.cells #[.slice none 0 0, .string ⟨#[]⟩, .slice none 0 0] 49) = W at *
  have HZ0 := Lib.hid hz0
  clear hz0
  have hBA : Below W.heap.size W (W.drew.alloc (.cells #[] 9)) := ((Below.refl _ _).drew).alloc (Nat.le_refl _) _
  have hOA : OwT (W.drew.alloc (.cells #[] 9)) W.heap.size (.slice (some ⟨W.heap.size, 0, none⟩) 0 0) [] := OwT.empty W.drew W.heap.size (Nat.le_refl _)
  have hIA := hI0.new hBA
  have c0 : W.cell? ⟨w.heap.size, 0, none⟩ = some (.slice ka K.length kc) := hD0.c0
  have c2 : W.cell? ⟨w.heap.size, 2, none⟩ = some (.slice na N.length nc) := hD0.c2
  have cA0 : (W.drew.alloc (.cells #[] 9)).cell? ⟨w.heap.size, 0, none⟩ = some (.slice ka K.length kc) := (hD0.new hBA).c0
  have cA2 : (W.drew.alloc (.cells #[] 9)).cell? ⟨w.heap.size, 2, none⟩ = some (.slice na N.length nc) := (hD0.new hBA).c2
  have HC : Hid (∀ w1, Ch (fun j => W.heap.size ≤ j) (W.drew.alloc (.cells #[] 9)) w1 → Below W.heap.size W w1) := Lib.hid fun w1 h => hBA.trans (h.below hBA.size fun k hk e => by omega)
  have HD := Lib.hid hD0
  have HI := Lib.hid hI0
  have HR : Hid (∀ w2, Below W.heap.size W w2 → w2.heap[w.heap.size + 1]? = some (.cells #[.slice none 0 0, .string ⟨#[]⟩, .slice none 0 0] 49 (0, 0))) := Lib.hid fun w2 hb => (hb.block _ (by have := HZ0.out; omega)).trans hR0
  have HCS : Hid (∀ (w2 : World) (x y z : Value), Ch (fun k => k = w.heap.size + 1) w2 (((w2.setCell ⟨w.heap.size + 1, 0, none⟩ x).setCell ⟨w.heap.size + 1, 1, none⟩ y).setCell ⟨w.heap.size + 1, 2, none⟩ z)) := Lib.hid fun w2 x y z =>
    ((Ch.setCell (S := fun k => k = w.heap.size + 1) _ _ _ fun _ => rfl).tr (Ch.setCell (S := fun k => k = w.heap.size + 1) _ _ _ fun _ => rfl)).tr (Ch.setCell (S := fun k => k = w.heap.size + 1) _ _ _ fun _ => rfl)
  have HK : Hid (∀ w2, Below W.heap.size W w2 → ∀ x y z : Value, (((w2.setCell ⟨w.heap.size + 1, 0, none⟩ x).setCell ⟨w.heap.size + 1, 1, none⟩ y).setCell ⟨w.heap.size + 1, 2, none⟩ z).cell? ⟨w.heap.size, 0, none⟩ = some (.slice ka K.length kc) ∧ (((w2.setCell ⟨w.heap.size + 1, 0, none⟩ x).setCell ⟨w.heap.size + 1, 1, none⟩ y).setCell ⟨w.heap.size + 1, 2, none⟩ z).cell? ⟨w.heap.size, 2, none⟩ = some (.slice na N.length nc)) := Lib.hid fun w2 hb x y z => by
    have := (HD.out.new hb).keep (HCS.out w2 x y z) (by omega)
    exact ⟨this.c0, this.c2⟩
  go_region_held3 (fun V => V.cell? ⟨w.heap.size, 0, none⟩ = some (.slice ka K.length kc) ∧ V.cell? ⟨w.heap.size, 2, none⟩ = some (.slice na N.length nc))
    (first | exact ⟨c0, c2⟩ | exact ⟨cA0, cA2⟩ | exact ⟨k10, k12⟩ | exact ⟨k20, k22⟩ | exact HK.out w2 hB2 _ _ _)
    (first
      | (refine step_app (by rfl) (.tmp 5) (.tmp 7) (by rfl) W.heap.size (.slice (some ⟨W.heap.size, 0, none⟩) 0 0) [] (by rfl) hOA ka kc K K.length rfl (by rfl) hIA.k hIA.kn (by simp; omega) (by simp) ?_
         intro a1 c1 w1 o1 h1
         rw [List.nil_append] at o1
         have hB1 := HC.out w1 (h1.mono fun j _ e => by have : W.heap.size = j := Option.some.inj e; omega)
         have k10 := (HD.out.new hB1).c0
         have k12 := (HD.out.new hB1).c2)
      | (refine step_app (by rfl) (.tmp 8) (.tmp 10) (by rfl) W.heap.size _ K (by rfl) o1 na nc N N.length rfl (by rfl) (HI.out.new hB1).n (HI.out.new hB1).nn (by omega) hB1.size ?_
         intro a2 c2 w2 o2 h2
         rw [← HL.out] at o2 ⊢
         have hB2 := hB1.trans (h2.below hB1.size fun k hk e => by have := (o1.own _ e).1; omega)
         have k20 := (HD.out.new hB2).c0
         have k22 := (HD.out.new hB2).c2
         have r2 := HR.out w2 hB2
         have p0 := cell_of_row _ _ 0 _ _ _ r2
         have p1 := cell_of_row _ _ 1 _ _ _ r2
         have p2 := cell_of_row _ _ 2 _ _ _ r2
         have f0 := frozen_of_row _ _ 0 _ _ r2
         have f1 := frozen_of_row _ _ 1 _ _ r2
         have f2 := frozen_of_row _ _ 2 _ _ r2))
  have q0 := heap_setCell_same w2 (w.heap.size + 1) 0 _ 49 (.slice a2 L.length c2) r2
  have q1 := heap_setCell_same _ (w.heap.size + 1) 1 _ 49 (.string (txt r)) q0
  have q2 := heap_setCell_same _ (w.heap.size + 1) 2 _ 49 (.slice none 0 0) q1
  have hc3 := HCS.out w2 (.slice a2 L.length c2) (.string (txt r)) (.slice none 0 0)
  have hO : OwT (((w2.setCell ⟨w.heap.size + 1, 0, none⟩ (.slice a2 L.length c2)).setCell ⟨w.heap.size + 1, 1, none⟩ (.string (txt r))).setCell ⟨w.heap.size + 1, 2, none⟩ (.slice none 0 0)) W.heap.size (.slice a2 L.length c2) L := o2.keep hc3 fun k hk e => by
    have := (o2.own k hk).1
    have := HZ0.out
    omega
  have hBF : Below w.heap.size w (((w2.setCell ⟨w.heap.size + 1, 0, none⟩ (.slice a2 L.length c2)).setCell ⟨w.heap.size + 1, 1, none⟩ (.string (txt r))).setCell ⟨w.heap.size + 1, 2, none⟩ (.slice none 0 0)) :=
    (hb0.trans (hB2.mono hb0.size)).trans (hc3.below (Nat.le_trans hb0.size hB2.size) fun k hk e => by omega)
  have hSl := (sl_of hO).mono hb0.size
  clear p0 p1 p2 f0 f1 f2 q0 q1 hc3 hO k10 k12 k20 k22 c0 cA0 cA2
  generalize ((w2.setCell ⟨w.heap.size + 1, 0, none⟩ (.slice a2 L.length c2)).setCell ⟨w.heap.size + 1, 1, none⟩ (.string (txt r))).setCell ⟨w.heap.size + 1, 2, none⟩ (.slice none 0 0) = V at *
  have k0 := cell_of_row _ _ 0 _ _ _ q2
  have k1 := cell_of_row _ _ 1 _ _ _ q2
  have k2 := cell_of_row _ _ 2 _ _ _ q2
  go_wp2
  refine bodyPost_ret (v := .agg #[.slice a2 L.length c2, .string (txt r), .slice none 0 0]) (by simp [results, Tryz.results23, go_sem, k0, k1, k2]) rfl ?_
  exact ⟨a2, c2, rfl, hSl, hBF⟩
end Go.Proofs.YtogihpofkjpokaaGreatDoor
namespace Go.Proofs.YtogihpofkjpokaaGreatDoor
open Go Go.RowKit
open F5 (txt txt_size data_txt RdT OwT)
attribute [-go_sem] Builtin.append_

theorem rprint_txt (s : List UInt8) (hs : s.length ≤ 100000) (w : World) : Calls Tryz.prog 22 #[.string (txt s)] w fun e w' => e = .returned (.string (txt (sha s))) ∧ Below w.heap.size w w' := S1.rprint_any (txt s) (by rw [txt_size]; exact hs) w
/-- One text more, where its fingerprint is asked for. -/
def oneMore (p : List UInt8) (l : List (List UInt8)) (t : List UInt8) : List (List UInt8) := if sha t = p ∧ t ∉ l then l ++ [t] else l
theorem colOne_take {K : List (List UInt8)} {k : Nat} (h : k < K.length) (p : List UInt8) (l : List (List UInt8)) : colOne (K.take (k + 1)) p l = oneMore p (colOne (K.take k) p l) K[k] := by
  unfold colOne
  rw [List.take_succ_eq_append_getElem h, List.foldl_append]
  rfl
/-- Is there a text of this fingerprint? -/
def anyOf (K : List (List UInt8)) (p : List UInt8) : Bool := K.any fun t => decide (sha t = p)
theorem any_take {K : List (List UInt8)} {k : Nat} (h : k < K.length) (p : List UInt8) : anyOf (K.take (k + 1)) p = (anyOf (K.take k) p || decide (sha K[k] = p)) := by
  unfold anyOf
  rw [List.take_succ_eq_append_getElem h, List.any_append]
  simp
theorem any_ex (K : List (List UInt8)) (p : List UInt8) : anyOf K p = true ↔ ∃ t ∈ K, sha t = p := by
  unfold anyOf
  rw [List.any_eq_true]
  simp
theorem rcol_step {K ps : List (List UInt8)} {ii : Nat} (h : ii < ps.length) {l : List (List UInt8)} (hl : (ps.take ii).foldl (rcolStep K) (some []) = some l) :
    (anyOf K ps[ii] = true → (ps.take (ii + 1)).foldl (rcolStep K) (some []) = some (colOne K ps[ii] l)) ∧ (anyOf K ps[ii] = false → rcol K ps = none) := by
  have e : (ps.take (ii + 1)).foldl (rcolStep K) (some []) = rcolStep K (some l) ps[ii] := by
    rw [List.take_succ_eq_append_getElem h, List.foldl_append, hl]; rfl
  refine ⟨fun h1 => ?_, fun h1 => ?_⟩
  · rw [e]
    exact if_pos ((any_ex _ _).1 h1)
  · have h2 : rcolStep K (some l) ps[ii] = none := if_neg fun h3 => by rw [(any_ex _ _).2 h3] at h1; cases h1
    have h3 : rcol K ps = (ps.drop (ii + 1)).foldl (rcolStep K) ((ps.take (ii + 1)).foldl (rcolStep K) (some [])) := by
      unfold rcol
      rw [← List.foldl_append, List.take_append_drop]
    rw [h3, e, h2]
    have hn : ∀ l : List (List UInt8), l.foldl (rcolStep K) none = none := fun l => by
      induction l with
      | nil => rfl
      | cons x l ih => exact ih
    exact hn _
theorem col_len (p : List UInt8) : ∀ (K l : List (List UInt8)), (colOne K p l).length ≤ l.length + K.length
  | [], l => by simp [colOne]
  | t :: K, l => by
    have h1 := col_len p K (oneMore p l t)
    have h2 : (oneMore p l t).length ≤ l.length + 1 := by unfold oneMore; split <;> simp
    have e : colOne (t :: K) p l = colOne K p (oneMore p l t) := rfl
    rw [e, List.length_cons]; omega
/-- What the rounds of Collect keep. -/
structure KI (W wr : World) (v : Value) (l : List (List UInt8)) (n : Nat) : Prop where
  own : OwT wr W.heap.size v l
  below : Below W.heap.size W wr
  len : l.length ≤ n
theorem KI.new {W wr w1 : World} {v : Value} {l : List (List UInt8)} {n : Nat} (h : KI W wr v l n) (hb : Below wr.heap.size wr w1) : KI W w1 v l n := ⟨h.own.new hb, h.below.trans (hb.mono h.below.size), h.len⟩
set_option maxRecDepth 100000 in
set_option maxHeartbeats 8000000 in
theorem rcollect_any {w : World} {s : DS} {Q : Nat → Prop} (hI : s.In w Q) (hk : s.K.length ≤ 100) (hx : ∀ x ∈ s.K, x.length ≤ 1000) (pa : Option Addr) (pc : Nat) (ps : List (List UInt8)) (hR : RdT w pa ps) (hps : ps.length ≤ 100) :
    Calls Tryz.prog 26 #[.agg s.cells, .slice pa ps.length pc] w fun e w' => ∃ s2 : DS, e = .returned (.tuple #[.agg s2.cells, .bool (rcol s.K ps).isSome]) ∧ s2.K = (rcol s.K ps).getD s.K ∧ s2.R = s.R ∧ s2.N = s.N ∧ s2.In w' (fun k => Q k ∨ w.heap.size ≤ k) ∧ Below w.heap.size w w' := by
  obtain ⟨ka, kc, K, R, na, nc, N⟩ := s
  have hb0 : Below w.heap.size w ((w.alloc (.cells (DS.cells ⟨ka, kc, K, R, na, nc, N⟩) 49)).alloc (.cells #[.slice none 0 0, .string ⟨#[]⟩, .slice none 0 0] 49)) := ((Below.refl _ _).alloc (Nat.le_refl _) _).alloc (by simp) _
  have hI0 := hI.new hb0
  have hR0 := hR.new hb0
  have hD0 : DAt ((w.alloc (.cells (DS.cells ⟨ka, kc, K, R, na, nc, N⟩) 49)).alloc (.cells #[.slice none 0 0, .string ⟨#[]⟩, .slice none 0 0] 49)) w.heap.size ⟨ka, kc, K, R, na, nc, N⟩ := (Below.heap_alloc _ _ _ (by simp)).trans (heap_alloc_new w _)
  have hO0 : ((w.alloc (.cells (DS.cells ⟨ka, kc, K, R, na, nc, N⟩) 49)).alloc (.cells #[.slice none 0 0, .string ⟨#[]⟩, .slice none 0 0] 49)).heap[w.heap.size + 1]? = some (.cells #[.slice none 0 0, .string ⟨#[]⟩, .slice none 0 0] 49 (0, 0)) := by
    have := heap_alloc_new (w.alloc (.cells (DS.cells ⟨ka, kc, K, R, na, nc, N⟩) 49)) (.cells #[.slice none 0 0, .string ⟨#[]⟩, .slice none 0 0] 49)
    rwa [show (w.alloc (.cells (DS.cells ⟨ka, kc, K, R, na, nc, N⟩) 49)).heap.size = w.heap.size + 1 by simp] at this
  have hz0 : ((w.alloc (.cells (DS.cells ⟨ka, kc, K, R, na, nc, N⟩) 49)).alloc (.cells #[.slice none 0 0, .string ⟨#[]⟩, .slice none 0 0] 49)).heap.size = w.heap.size + 2 := by simp
  unfold DS.cells at *
  simp only at *
  go_enter Tryz.func26, Tryz.ntmps26
  go_wp2_with fail
  generalize (w.alloc (.cells #[.slice ka K.length kc, .string (txt R), .slice na N.length nc] 49)).alloc (.cells #[.slice none 0 0, .string ⟨#[]⟩, .slice none 0 0] 49) = W at *
  have HK := Lib.hid (And.intro hI0 (And.intro hD0 (And.intro hO0 (And.intro hz0 (And.intro hR0 (And.intro hx (And.intro hb0 hI)))))))
  have hkI : (K.length : Int) ≤ 100 := by omega
  have hpI : (ps.length : Int) ≤ 100 := by omega
  have H0 : Hid (KI W W (.slice none 0 0) [] 0) := Lib.hid ⟨OwT.nil _ _, Below.refl _ _, Nat.le_refl _⟩
  clear hI0 hD0 hO0 hz0 hR0 hx hb0 hI hR
  go_loopw [6, 7, 8, 9] (fun v i _ _ wr => ∃ (ii : Nat) (l : List (List UInt8)), i = .int .i64 (ii : Int) ∧ ii ≤ ps.length ∧ Hid ((ps.take ii).foldl (rcolStep K) (some []) = some l ∧ KI W wr v l (100 * ii))) (fun _ i _ _ _ => ps.length - (intOf i).toNat)
  case atStart => exact ⟨0, [], rfl, Nat.zero_le _, Lib.hid ⟨rfl, H0.out⟩⟩
  case round =>
    obtain ⟨ii, l, rfl, hi, HI⟩ := hrel
    obtain ⟨wo, rfl⟩ : ∃ x, x = wr := ⟨_, rfl⟩
    obtain ⟨la, lc, hv, -⟩ := HI.out.2.own.rd
    subst hv
    by_cases hlt : ii < ps.length
    · have hlt' : (ii : Int) < (ps.length : Int) := by omega
      have hi0 : (0 : Int) ≤ (ii : Int) := by omega
      obtain ⟨pb, poff, rfl, hpc⟩ := (HK.out.2.2.2.2.1.new HI.out.2.below) ii hlt
      rw [F5.getD_at hlt] at hpc
      have HST := Lib.hid (rcol_step (K := K) hlt HI.out.1)
      have HPC : Hid (∀ w1, Below W.heap.size W w1 → w1.cell? ⟨pb, poff + ii, none⟩ = some (.string (txt ps[ii]))) := Lib.hid fun w1 hb => by
        obtain ⟨pb2, poff2, e, h2⟩ := (HK.out.2.2.2.2.1.new hb) ii hlt
        cases e
        rwa [F5.getD_at hlt] at h2
      generalize ps[ii] = p at hpc HST HPC
      go_wp2
      go_loopw [6, 8, 9] (fun v f k wr => ∃ (kk : Nat) (l1 : List (List UInt8)), k = .int .i64 (kk : Int) ∧ kk ≤ K.length ∧ f = .bool (anyOf (K.take kk) p) ∧ Hid (l1 = colOne (K.take kk) p l ∧ KI W wr v l1 (100 * ii + kk))) (fun _ _ k _ => K.length - (intOf k).toNat)
      case atStart => exact ⟨0, l, rfl, Nat.zero_le _, rfl, Lib.hid ⟨rfl, HI.out.2⟩⟩
      case round =>
        obtain ⟨kk, l1, rfl, hkk, rfl, HJ⟩ := hrel
        obtain ⟨wj, rfl⟩ : ∃ x, x = wr := ⟨_, rfl⟩
        obtain ⟨ja, jc, hv, -⟩ := HJ.out.2.own.rd
        subst hv
        have c0 : wj.cell? ⟨w.heap.size, 0, none⟩ = some (.slice ka K.length kc) := (HK.out.2.1.new HJ.out.2.below).c0
        by_cases hk1 : kk < K.length
        · have hk1' : (kk : Int) < (K.length : Int) := by omega
          have hk0 : (0 : Int) ≤ (kk : Int) := by omega
          obtain ⟨kb, koff, rfl, hkc⟩ := (HK.out.1.k.new HJ.out.2.below) kk hk1
          have hpc2 := HPC.out wj HJ.out.2.below
          simp only at hkc
          rw [F5.getD_at hk1] at hkc
          have HKC : Hid (∀ w1, Below W.heap.size W w1 → w1.cell? ⟨w.heap.size, 0, none⟩ = some (.slice (some ⟨kb, koff, none⟩) K.length kc) ∧ w1.cell? ⟨kb, koff + kk, none⟩ = some (.string (txt K[kk]))) := Lib.hid fun w1 hb => by
            obtain ⟨kb2, koff2, e, h2⟩ := (HK.out.1.k.new hb) kk hk1
            cases e
            simp only at h2
            rw [F5.getD_at hk1] at h2
            exact ⟨(HK.out.2.1.new hb).c0, h2⟩
          have hxl := HK.out.2.2.2.2.2.1 _ (List.getElem_mem hk1)
          have HCO := Lib.hid (And.intro (colOne_take hk1 p l) (any_take hk1 p))
          generalize K[kk] = t at hkc HKC hxl HCO
          have P := Lib.hid (rprint_txt t (by omega))
          have HBJ : Hid (∀ w1, Below wj.heap.size wj w1 → Below W.heap.size W w1) := Lib.hid fun w1 hb => HJ.out.2.below.trans (hb.mono HJ.out.2.below.size)
          by_cases he : sha t = p
          · rw [he] at P
            have HP2 : Hid (∀ w1, Below wj.heap.size wj w1 → Calls Tryz.prog 43 #[.slice ja l1.length jc, .string (txt t)] w1 fun e w' => e = .returned (.bool (decide (t ∈ l1))) ∧ w' = w1) := Lib.hid fun w1 hb => by
              obtain ⟨a', c', e', h1, _⟩ := (HJ.out.2.own.new hb).rd
              cases e'
              exact rhas_any h1 (by have := HJ.out.2.len; omega) t
            have HE := Lib.hid he
            have HT := Lib.hid (fun W => one_rd W t)
            by_cases hm : t ∈ l1
            · have HP3 : Hid (∀ w1, Below wj.heap.size wj w1 → Calls Tryz.prog 43 #[.slice ja l1.length jc, .string (txt t)] w1 fun e w' => e = .returned (.bool true) ∧ w' = w1) := Lib.hid fun w1 hb => by have := HP2.out w1 hb; rwa [decide_eq_true hm] at this
              have HM := Lib.hid hm
              clear he hm HP2
              generalize txt p = tp at *
              generalize txt t = tt at *
              go_wp2_with fail
              go_region_held3 (fun V => V.cell? ⟨w.heap.size, 0, none⟩ = some (.slice (some ⟨kb, koff, none⟩) K.length kc) ∧ V.cell? ⟨kb, koff + kk, none⟩ = some (.string tt) ∧ V.cell? ⟨pb, poff + ii, none⟩ = some (.string tp))
                (first | exact ⟨c0, hkc, hpc2⟩ | exact ⟨d0, dk, dq⟩)
                (first | (go_at_call 22; (with_reducible refine (P.out _).mono ?_); rintro e w1 ⟨rfl, hb1⟩; have hb2 : Below wj.heap.size wj w1 := D4.undrew hb1; obtain ⟨d0, dk⟩ := HKC.out w1 (HBJ.out w1 hb2); have dq := HPC.out w1 (HBJ.out w1 hb2)))
              clear d0 dk dq hb1
              go_wp2_with (go_at_call 43; (with_reducible refine (HP3.out _ hb2).mono ?_); rintro e w3 ⟨rfl, hw3⟩; subst w3)
              go_roundw
              case rel =>
                refine ⟨kk + 1, l1, by go_num, by omega, by rw [HCO.out.2, decide_eq_true HE.out, Bool.or_true], Lib.hid ⟨?_, ?_⟩⟩
                · rw [HCO.out.1, ← HJ.out.1]
                  exact (if_neg fun h => h.2 HM.out).symm
                · exact ⟨(HJ.out.2.new hb2).own, (HJ.out.2.new hb2).below, by have := HJ.out.2.len; omega⟩
              case measure => simp [intOf]; omega
            · have HP3 : Hid (∀ w1, Below wj.heap.size wj w1 → Calls Tryz.prog 43 #[.slice ja l1.length jc, .string (txt t)] w1 fun e w' => e = .returned (.bool false) ∧ w' = w1) := Lib.hid fun w1 hb => by have := HP2.out w1 hb; rwa [decide_eq_false hm] at this
              have HM := Lib.hid hm
              clear he hm HP2
              generalize txt p = tp at *
              generalize txt t = tt at *
              go_wp2_with fail
              go_region_held3 (fun V => V.cell? ⟨w.heap.size, 0, none⟩ = some (.slice (some ⟨kb, koff, none⟩) K.length kc) ∧ V.cell? ⟨kb, koff + kk, none⟩ = some (.string tt) ∧ V.cell? ⟨pb, poff + ii, none⟩ = some (.string tp))
                (first | exact ⟨c0, hkc, hpc2⟩ | exact ⟨d0, dk, dq⟩)
                (first | (go_at_call 22; (with_reducible refine (P.out _).mono ?_); rintro e w1 ⟨rfl, hb1⟩; have hb2 : Below wj.heap.size wj w1 := D4.undrew hb1; obtain ⟨d0, dk⟩ := HKC.out w1 (HBJ.out w1 hb2); have dq := HPC.out w1 (HBJ.out w1 hb2)))
              have hlen := HJ.out.2.len
              have hOw := (HJ.out.2.own.new hb2).new ((Below.refl w1.heap.size w1).alloc (Nat.le_refl _) (.cells #[.string tt] 9))
              have hWs : W.heap.size ≤ (w1.alloc (.cells #[.string tt] 9)).heap.size := by
                have h1 := (HBJ.out w1 hb2).size
                simp; omega
              go_wp2_with (first
                | (go_at_call 43; (with_reducible refine (HP3.out _ hb2).mono ?_); rintro e w3 ⟨rfl, hw3⟩; subst w3)
                | (at_builtin; refine wpList_app rfl (.tmp 42) (.tmp 48) rfl W.heap.size (.slice ja l1.length jc) l1 rfl hOw (some ⟨w1.heap.size, 0, none⟩) 1 [t] 1 rfl rfl (HT.out w1) (fun e => by cases e) (by simp; omega) hWs ?_; intro a3 c3 w3 o3 h3))
              go_roundw
              case rel =>
                refine ⟨kk + 1, l1 ++ [t], by go_num, by omega, by rw [HCO.out.2, decide_eq_true HE.out, Bool.or_true], Lib.hid ⟨?_, ?_⟩⟩
                · rw [HCO.out.1, ← HJ.out.1]
                  exact (if_pos ⟨HE.out, HM.out⟩).symm
                · have hB3 : Below W.heap.size W (w1.alloc (.cells #[.string tt] 9)) := (HBJ.out w1 hb2).alloc (HBJ.out w1 hb2).size _
                  exact ⟨(by rw [List.length_append, List.length_singleton] at o3; exact o3), hB3.trans (h3.below hWs fun k hk e => by have := (hOw.own k e).1; omega), by rw [List.length_append, List.length_singleton]; omega⟩
              case measure => simp [intOf]; omega
          · have HE := Lib.hid he
            have hne : ((txt (sha t)).toList == (txt p).toList) = false := by rw [F5.txt_eq]; exact decide_eq_false he
            have hne2 : ¬ txt (sha t) = txt p := fun e => he (F5.txt_inj e)
            clear he
            generalize txt p = tp at *
            generalize txt (sha t) = ts at *
            generalize txt t = tt at *
            go_wp2_with fail
            go_region_held3 (fun V => V.cell? ⟨w.heap.size, 0, none⟩ = some (.slice (some ⟨kb, koff, none⟩) K.length kc) ∧ V.cell? ⟨kb, koff + kk, none⟩ = some (.string tt) ∧ V.cell? ⟨pb, poff + ii, none⟩ = some (.string tp))
              (first | exact ⟨c0, hkc, hpc2⟩ | exact ⟨d0, dk, dq⟩)
              (first | (go_at_call 22; (with_reducible refine (P.out _).mono ?_); rintro e w1 ⟨rfl, hb1⟩; have hb2 : Below wj.heap.size wj w1 := D4.undrew hb1; obtain ⟨d0, dk⟩ := HKC.out w1 (HBJ.out w1 hb2); have dq := HPC.out w1 (HBJ.out w1 hb2)))
            clear d0 dk dq hb1
            go_wp2
            go_roundw
            case rel =>
              refine ⟨kk + 1, l1, by go_num, by omega, by rw [HCO.out.2, decide_eq_false HE.out, Bool.or_false], Lib.hid ⟨?_, ?_⟩⟩
              · rw [HCO.out.1, ← HJ.out.1]
                exact (if_neg fun h => HE.out h.1).symm
              · exact ⟨(HJ.out.2.new hb2).own, (HJ.out.2.new hb2).below, by have := HJ.out.2.len; omega⟩
            case measure => simp [intOf]; omega
        · have hk1' : (K.length : Int) ≤ (kk : Int) := by omega
          have e : kk = K.length := by omega
          subst e
          rw [List.take_length] at HJ ⊢
          cases hany : anyOf K p with
          | true =>
            have HN := Lib.hid (HST.out.1 hany)
            clear hany
            go_wp2
            go_roundw
            case rel => exact ⟨ii + 1, l1, by go_num, by omega, Lib.hid ⟨by rw [HN.out, HJ.out.1], HJ.out.2.own, HJ.out.2.below, by have := HJ.out.2.len; omega⟩⟩
            case measure => simp [intOf]; omega
          | false =>
            have hnone := HST.out.2 hany
            have HB := Lib.hid HJ.out.2.below
            have HNN := Lib.hid hnone
            clear hnone
            have hDF := HK.out.2.1.new HB.out
            have c0 := hDF.c0
            have c1 := hDF.c1
            have c2 := hDF.c2
            have r0 : wj.heap[w.heap.size + 1]? = some (.cells #[.slice none 0 0, .string ⟨#[]⟩, .slice none 0 0] 49 (0, 0)) := (HB.out.block _ (by have := HK.out.2.2.2.1; omega)).trans HK.out.2.2.1
            have p0 := cell_of_row _ _ 0 _ _ _ r0
            have p1 := cell_of_row _ _ 1 _ _ _ r0
            have p2 := cell_of_row _ _ 2 _ _ _ r0
            have f0 := frozen_of_row _ _ 0 _ _ r0
            have f1 := frozen_of_row _ _ 1 _ _ r0
            have f2 := frozen_of_row _ _ 2 _ _ r0
            have q0 := heap_setCell_same wj (w.heap.size + 1) 0 _ 49 (.slice ka K.length kc) r0
            have q1 := heap_setCell_same _ (w.heap.size + 1) 1 _ 49 (.string (txt R)) q0
            have q2 := heap_setCell_same _ (w.heap.size + 1) 2 _ 49 (.slice na N.length nc) q1
            have hc3 : Ch (fun k => k = w.heap.size + 1) wj (((wj.setCell ⟨w.heap.size + 1, 0, none⟩ (.slice ka K.length kc)).setCell ⟨w.heap.size + 1, 1, none⟩ (.string (txt R))).setCell ⟨w.heap.size + 1, 2, none⟩ (.slice na N.length nc)) := ((Ch.setCell (S := fun k => k = w.heap.size + 1) _ _ _ fun _ => rfl).tr (Ch.setCell (S := fun k => k = w.heap.size + 1) _ _ _ fun _ => rfl)).tr (Ch.setCell (S := fun k => k = w.heap.size + 1) _ _ _ fun _ => rfl)
            have hBF : Below w.heap.size w (((wj.setCell ⟨w.heap.size + 1, 0, none⟩ (.slice ka K.length kc)).setCell ⟨w.heap.size + 1, 1, none⟩ (.string (txt R))).setCell ⟨w.heap.size + 1, 2, none⟩ (.slice na N.length nc)) := by
              have h1 := HK.out.2.2.2.2.2.2.1
              exact (h1.trans (HB.out.mono h1.size)).trans (hc3.below (Nat.le_trans h1.size HB.out.size) fun k hk e => by omega)
            clear q0 q1
            go_wp2
            generalize ((wj.setCell ⟨w.heap.size + 1, 0, none⟩ (.slice ka K.length kc)).setCell ⟨w.heap.size + 1, 1, none⟩ (.string (txt R))).setCell ⟨w.heap.size + 1, 2, none⟩ (.slice na N.length nc) = V at *
            have k0 := cell_of_row _ _ 0 _ _ _ q2
            have k1 := cell_of_row _ _ 1 _ _ _ q2
            have k2 := cell_of_row _ _ 2 _ _ _ q2
            refine bodyPost_ret (v := .tuple #[.agg #[.slice ka K.length kc, .string (txt R), .slice na N.length nc], .bool false]) (by simp [results, Tryz.results26, go_sem, k0, k1, k2]) rfl ?_
            exact ⟨⟨ka, kc, K, R, na, nc, N⟩, by rw [HNN.out]; rfl, by rw [HNN.out]; rfl, rfl, rfl, ((HK.out.2.2.2.2.2.2.2).new hBF).mono fun k _ hk => .inl hk, hBF⟩
    · have hlt' : (ps.length : Int) ≤ (ii : Int) := by omega
      have e : ii = ps.length := by omega
      subst e
      rw [List.take_length] at HI
      have HB := Lib.hid HI.out.2.below
      have HRC : Hid (rcol K ps = some l) := Lib.hid HI.out.1
      have hDF := HK.out.2.1.new HB.out
      have c0 := hDF.c0
      have c1 := hDF.c1
      have c2 := hDF.c2
      have r0 : wo.heap[w.heap.size + 1]? = some (.cells #[.slice none 0 0, .string ⟨#[]⟩, .slice none 0 0] 49 (0, 0)) := (HB.out.block _ (by have := HK.out.2.2.2.1; omega)).trans HK.out.2.2.1
      have p0 := cell_of_row _ _ 0 _ _ _ r0
      have p1 := cell_of_row _ _ 1 _ _ _ r0
      have p2 := cell_of_row _ _ 2 _ _ _ r0
      have f0 := frozen_of_row _ _ 0 _ _ r0
      have f1 := frozen_of_row _ _ 1 _ _ r0
      have f2 := frozen_of_row _ _ 2 _ _ r0
      have q0 := heap_setCell_same wo (w.heap.size + 1) 0 _ 49 (.slice la l.length lc) r0
      have q1 := heap_setCell_same _ (w.heap.size + 1) 1 _ 49 (.string (txt R)) q0
      have q2 := heap_setCell_same _ (w.heap.size + 1) 2 _ 49 (.slice na N.length nc) q1
      have hc3 : Ch (fun k => k = w.heap.size + 1) wo (((wo.setCell ⟨w.heap.size + 1, 0, none⟩ (.slice la l.length lc)).setCell ⟨w.heap.size + 1, 1, none⟩ (.string (txt R))).setCell ⟨w.heap.size + 1, 2, none⟩ (.slice na N.length nc)) := ((Ch.setCell (S := fun k => k = w.heap.size + 1) _ _ _ fun _ => rfl).tr (Ch.setCell (S := fun k => k = w.heap.size + 1) _ _ _ fun _ => rfl)).tr (Ch.setCell (S := fun k => k = w.heap.size + 1) _ _ _ fun _ => rfl)
      have hBF : Below w.heap.size w (((wo.setCell ⟨w.heap.size + 1, 0, none⟩ (.slice la l.length lc)).setCell ⟨w.heap.size + 1, 1, none⟩ (.string (txt R))).setCell ⟨w.heap.size + 1, 2, none⟩ (.slice na N.length nc)) := by
        have h1 := HK.out.2.2.2.2.2.2.1
        exact (h1.trans (HB.out.mono h1.size)).trans (hc3.below (Nat.le_trans h1.size HB.out.size) fun k hk e => by omega)
      have hO : OwT (((wo.setCell ⟨w.heap.size + 1, 0, none⟩ (.slice la l.length lc)).setCell ⟨w.heap.size + 1, 1, none⟩ (.string (txt R))).setCell ⟨w.heap.size + 1, 2, none⟩ (.slice na N.length nc)) W.heap.size (.slice la l.length lc) l := HI.out.2.own.keep hc3 fun k hk e => by
        have h1 := (HI.out.2.own.own k hk).1
        have h2 := HK.out.2.2.2.1
        omega
      have hSl := (sl_of hO).mono HK.out.2.2.2.2.2.2.1.size
      clear q0 q1
      go_wp2
      generalize ((wo.setCell ⟨w.heap.size + 1, 0, none⟩ (.slice la l.length lc)).setCell ⟨w.heap.size + 1, 1, none⟩ (.string (txt R))).setCell ⟨w.heap.size + 1, 2, none⟩ (.slice na N.length nc) = V at *
      have k0 := cell_of_row _ _ 0 _ _ _ q2
      have k1 := cell_of_row _ _ 1 _ _ _ q2
      have k2 := cell_of_row _ _ 2 _ _ _ q2
      refine bodyPost_ret (v := .tuple #[.agg #[.slice la l.length lc, .string (txt R), .slice na N.length nc], .bool true]) (by simp [results, Tryz.results26, go_sem, k0, k1, k2]) rfl ?_
      have hIF := HK.out.2.2.2.2.2.2.2.new hBF
      exact ⟨⟨la, lc, l, R, na, nc, N⟩, by rw [HRC.out]; rfl, by rw [HRC.out]; rfl, rfl, rfl, ⟨hSl.rd, hIF.n, hSl.nil, hIF.nn, fun ad e => ⟨.inr (hSl.new ad e).1, (hSl.new ad e).2⟩, fun ad e => ⟨.inl (hIF.nq ad e).1, (hIF.nq ad e).2⟩⟩, hBF⟩
end Go.Proofs.YtogihpofkjpokaaGreatDoor
namespace Go.Proofs.YtogihpofkjpokaaGreatDoor
open Go Go.RowKit
open F5 (txt txt_size data_txt RdT OwT)
attribute [-go_sem] Builtin.append_

theorem less_before : ∀ a b : List UInt8, Op.bytesLess a b = bytesBefore a b
  | [], [] => rfl
  | [], _ :: _ => rfl
  | _ :: _, [] => rfl
  | a :: r, b :: s => by
    have h := less_before r s
    simp [Op.bytesLess, bytesBefore, h]
theorem less_txt (p q : List UInt8) : Op.bytesLess (txt p).toList (txt q).toList = bytesBefore p q := by
  rw [ByteArray.toList_eq, ByteArray.toList_eq, data_txt, data_txt, less_before]
/-- A fingerprint, put where it belongs, one by one. -/
def insStep (p : List UInt8) (a : List (List UInt8) × Bool) (q : List UInt8) : List (List UInt8) × Bool := if a.2 = false ∧ bytesBefore p q = true then (a.1 ++ [p] ++ [q], true) else (a.1 ++ [q], a.2)
theorem ins_done (p : List UInt8) : ∀ (xs a : List (List UInt8)), xs.foldl (insStep p) (a, true) = (a ++ xs, true)
  | [], a => by simp
  | x :: xs, a => by
    rw [List.foldl_cons, show insStep p (a, true) x = (a ++ [x], true) from if_neg (fun h => by cases h.1), ins_done p xs, List.append_assoc]; rfl
theorem ins_all (p : List UInt8) : ∀ (xs a : List (List UInt8)), (let r := xs.foldl (insStep p) (a, false); if r.2 then r.1 else r.1 ++ [p]) = a ++ rins p xs
  | [], a => rfl
  | x :: xs, a => by
    rw [List.foldl_cons]
    by_cases h : bytesBefore p x = true
    · rw [show insStep p (a, false) x = (a ++ [p] ++ [x], true) from if_pos ⟨rfl, h⟩, ins_done]
      unfold rins
      rw [if_pos h]
      simp
    · rw [show insStep p (a, false) x = (a ++ [x], false) from if_neg (fun e => h e.2)]
      have := ins_all p xs (a ++ [x])
      rw [this]
      have e : rins p (x :: xs) = x :: rins p xs := if_neg h
      rw [e]
      simp
theorem rprints_take {K : List (List UInt8)} {i : Nat} (h : i < K.length) : rprints (K.take (i + 1)) = rins (sha K[i]) (rprints (K.take i)) := by
  unfold rprints
  rw [List.take_succ_eq_append_getElem h, List.foldl_append]; rfl
theorem rins_len (p : List UInt8) : ∀ xs : List (List UInt8), (rins p xs).length = xs.length + 1
  | [] => rfl
  | x :: xs => by
    unfold rins
    split
    · rfl
    · rw [List.length_cons, List.length_cons, rins_len p xs]
theorem rprints_len (K : List (List UInt8)) : ∀ i, i ≤ K.length → (rprints (K.take i)).length = i
  | 0, _ => rfl
  | i + 1, h => by rw [rprints_take (by omega), rins_len, rprints_len K i (by omega)]
theorem ins_take {p : List UInt8} {xs : List (List UInt8)} {k : Nat} (h : k < xs.length) : (xs.take (k + 1)).foldl (insStep p) ([], false) = insStep p ((xs.take k).foldl (insStep p) ([], false)) xs[k] := by
  rw [List.take_succ_eq_append_getElem h, List.foldl_append]; rfl
theorem OwT.one {w3 : World} {base : Nat} {a : Option Addr} {c : Nat} {l : List (List UInt8)} {t : List UInt8} (o : OwT w3 base (.slice a (l ++ [t]).length c) (l ++ [t])) : OwT w3 base (.slice a (l.length + 1) c) (l ++ [t]) := by
  rw [List.length_append, List.length_singleton] at o; exact o
theorem grow_step {w1 wr : World} {v : Value} {l : List (List UInt8)} (ho : OwT wr w1.heap.size v l) (hB : Below w1.heap.size w1 wr) (t : ByteArray) {w3 : World} (h : Ch (fun j => v.ownBlock = some j) (wr.alloc (.cells #[.string t] 9)) w3) : Below w1.heap.size w1 w3 := by
  have h1 : Below w1.heap.size w1 (wr.alloc (.cells #[.string t] 9)) := hB.alloc hB.size _
  exact h1.trans (h.below h1.size fun k hk e => by have := (ho.own k e).1; omega)
set_option maxRecDepth 100000 in
set_option maxHeartbeats 8000000 in
theorem rprints_any {w : World} {s : DS} {Q : Nat → Prop} (hI : s.In w Q) (hk : s.K.length ≤ 100) (hx : ∀ x ∈ s.K, x.length ≤ 1000) :
    Calls Tryz.prog 47 #[.agg s.cells] w fun e w' => ∃ a c, e = .returned (.slice a s.K.length c) ∧ Sl w' w.heap.size a c (rprints s.K) ∧ Below w.heap.size w w' := by
  obtain ⟨ka, kc, K, R, na, nc, N⟩ := s
  have hb0 : Below w.heap.size w (w.alloc (.cells (DS.cells ⟨ka, kc, K, R, na, nc, N⟩) 49)) := (Below.refl _ _).alloc (Nat.le_refl _) _
  have hI0 := hI.new hb0
  have hD0 : DAt (w.alloc (.cells (DS.cells ⟨ka, kc, K, R, na, nc, N⟩) 49)) w.heap.size ⟨ka, kc, K, R, na, nc, N⟩ := heap_alloc_new w _
  unfold DS.cells at *
  simp only at *
  go_enter Tryz.func47, Tryz.ntmps47
  go_wp2_with fail
  generalize w.alloc (.cells #[.slice ka K.length kc, .string (txt R), .slice na N.length nc] 49) = W at *
  have HK := Lib.hid (And.intro hI0 (And.intro hD0 (And.intro hx hb0)))
  have hkI : (K.length : Int) ≤ 100 := by omega
  have H0 : Hid (KI W W (.slice none 0 0) [] 0) := Lib.hid ⟨OwT.nil _ _, Below.refl _ _, Nat.le_refl _⟩
  clear hI0 hD0 hx hb0 hI
  go_loopw [3, 4, 5, 6, 7, 8] (fun v i _ _ _ _ wr => ∃ (ii : Nat), i = .int .i64 (ii : Int) ∧ ii ≤ K.length ∧ Hid (KI W wr v (rprints (K.take ii)) ii)) (fun _ i _ _ _ _ _ => K.length - (intOf i).toNat)
  case atStart => exact ⟨0, rfl, Nat.zero_le _, H0⟩
  case round =>
    obtain ⟨ii, rfl, hi, HI⟩ := hrel
    obtain ⟨wo, rfl⟩ : ∃ x, x = wr := ⟨_, rfl⟩
    obtain ⟨oa, oc, hv, -⟩ := HI.out.own.rd
    subst hv
    have hol := rprints_len K ii hi
    have c0 : wo.cell? ⟨w.heap.size, 0, none⟩ = some (.slice ka K.length kc) := (HK.out.2.1.new HI.out.below).c0
    by_cases hlt : ii < K.length
    · have hlt' : (ii : Int) < (K.length : Int) := by omega
      have hi0 : (0 : Int) ≤ (ii : Int) := by omega
      obtain ⟨kb, koff, rfl, hkc⟩ := (HK.out.1.k.new HI.out.below) ii hlt
      simp only at hkc
      rw [F5.getD_at hlt] at hkc
      have hxl := HK.out.2.2.1 _ (List.getElem_mem hlt)
      have HRT := Lib.hid (rprints_take hlt)
      generalize K[ii] = t at hkc hxl HRT
      have P := Lib.hid (rprint_txt t (by omega))
      obtain ⟨out, hout⟩ : ∃ out, rprints (K.take ii) = out := ⟨_, rfl⟩
      rw [hout] at HI HRT hol ⊢
      clear hout
      obtain ⟨p, hp⟩ : ∃ p, sha t = p := ⟨_, rfl⟩
      rw [hp] at P HRT
      clear hp
      have HT := Lib.hid (fun W => one_rd W p)
      have HL := Lib.hid hol
      rw [hol]
      have HPD : Hid (∀ q, Op.bytesLess (txt p).toList (txt q).toList = bytesBefore p q) := Lib.hid (less_txt p)
      generalize txt t = tt at hkc P
      generalize txt p = tp at P HT HPD
      go_wp2_with (go_at_call 22; (with_reducible refine (P.out _).mono ?_); rintro e w1 ⟨rfl, hb1⟩)
      have HI1 := Lib.hid (HI.out.new hb1)
      clear hkc c0 hb1
      go_loopw [6, 7, 8] (fun v f k wr => ∃ (kk : Nat) (l1 : List (List UInt8)) (d : Bool), k = .int .i64 (kk : Int) ∧ kk ≤ ii ∧ f = .bool d ∧ Hid ((out.take kk).foldl (insStep p) ([], false) = (l1, d) ∧ OwT wr w1.heap.size v l1 ∧ (l1.length ≤ kk ∨ (d = true ∧ l1.length ≤ kk + 1)) ∧ Below w1.heap.size w1 wr)) (fun _ _ k _ => ii - (intOf k).toNat)
      case atStart => exact ⟨0, [], false, rfl, Nat.zero_le _, rfl, Lib.hid ⟨rfl, OwT.nil _ _, .inl (by simp), Below.refl _ _⟩⟩
      case round =>
        obtain ⟨kk, l1, d, rfl, hkk, rfl, HJ⟩ := hrel
        obtain ⟨ja, jc, hv, -⟩ := HJ.out.2.1.rd
        subst hv
        have hll : l1.length ≤ kk + 1 := by rcases HJ.out.2.2.1 with h | ⟨-, h⟩ <;> omega
        have HLL := Lib.hid HJ.out.2.2.1
        have hsz := HJ.out.2.2.2.size
        have hrd : RdT wr oa out := by
          obtain ⟨a', c', e', h1, _⟩ := HI1.out.own.rd
          cases e'
          exact h1.new HJ.out.2.2.2
        by_cases hk1 : kk < ii
        · have hk1' : (kk : Int) < (ii : Int) := by omega
          have hk0 : (0 : Int) ≤ (kk : Int) := by omega
          have hko : kk < out.length := by have := HL.out; omega
          obtain ⟨ob, ooff, rfl, hoc⟩ := hrd kk hko
          rw [F5.getD_at hko] at hoc
          have HIT : Hid ((out.take (kk + 1)).foldl (insStep p) ([], false) = insStep p (l1, d) out[kk]) := Lib.hid (by rw [ins_take hko, HJ.out.1])
          have HRD : Hid (∀ w3, Below w1.heap.size w1 w3 → w3.cell? ⟨ob, ooff + kk, none⟩ = some (.string (txt out[kk]))) := Lib.hid fun w3 hb3 => by
            obtain ⟨a', c', e', h1, _⟩ := HI1.out.own.rd
            cases e'
            obtain ⟨b', o', e2, h2⟩ := (h1.new hb3) kk hko
            cases e2
            rwa [F5.getD_at hko] at h2
          generalize out[kk] = q at hoc HIT HRD
          have hpd := HPD.out q
          have HTQ := Lib.hid (fun W => one_rd W q)
          clear hrd
          by_cases hdone : d = false ∧ bytesBefore p q = true
          · obtain ⟨rfl, hb⟩ := hdone
            rw [hb] at hpd
            have HIT2 : Hid (insStep p (l1, false) q = (l1 ++ [p] ++ [q], true)) := Lib.hid (if_pos ⟨rfl, hb⟩)
            have hOp := HJ.out.2.1.new ((Below.refl wr.heap.size wr).alloc (Nat.le_refl _) (.cells #[.string tp] 9))
            generalize txt q = tq at *
            go_upto_region 14 with (at_builtin; refine wpList_app rfl (.tmp 38) (.tmp 40) rfl w1.heap.size (.slice ja l1.length jc) l1 rfl hOp (some ⟨wr.heap.size, 0, none⟩) 1 [p] 1 rfl rfl (HT.out wr) (fun e => by cases e) (by simp; omega) (by simp; omega) ?_; intro a3 c3 w3 o3 h3)
            have hB3 := grow_step HJ.out.2.1 HJ.out.2.2.2 tp h3
            have k3 := HRD.out w3 hB3
            have z3 := hB3.size
            have ho3 := OwT.one o3
            have hO3 := ho3.new ((Below.refl w3.heap.size w3).alloc (Nat.le_refl _) (.cells #[.string tq] 9))
            obtain ⟨l2, hl2⟩ : ∃ l2, l1 ++ [p] = l2 := ⟨_, rfl⟩
            have hn2 : l1.length + 1 = l2.length := by rw [← hl2]; simp
            have HL2 := Lib.hid hl2
            rw [hl2, hn2] at hO3 ho3
            rw [hl2] at o3
            rw [hn2]
            have hll2 : l2.length ≤ kk + 1 := by rcases HLL.out with h | ⟨h, -⟩; omega; cases h
            have HJ2 := Lib.hid (And.intro ho3 hB3)
            clear hl2 hn2 hOp o3 h3 hB3
            go_wp2_with (at_builtin; refine wpList_app rfl (.tmp 42) (.tmp 47) rfl w1.heap.size (.slice a3 l2.length c3) l2 rfl hO3 (some ⟨w3.heap.size, 0, none⟩) 1 [q] 1 rfl rfl (HTQ.out w3) (fun e => by cases e) (by simp; omega) (by simp; omega) ?_; intro a4 c4 w4 o4 h4)
            go_roundw
            case rel => exact ⟨kk + 1, l2 ++ [q], true, by go_num, by omega, rfl, Lib.hid ⟨by rw [HIT.out, HIT2.out, HL2.out], OwT.one o4, .inr ⟨rfl, by rw [List.length_append, List.length_singleton]; omega⟩, grow_step HJ2.out.1 HJ2.out.2 tq h4⟩⟩
            case measure => simp [intOf]; omega
          · have HIT2 : Hid (insStep p (l1, d) q = (l1 ++ [q], d)) := Lib.hid (if_neg hdone)
            have hOp := HJ.out.2.1.new ((Below.refl wr.heap.size wr).alloc (Nat.le_refl _) (.cells #[.string (txt q)] 9))
            generalize txt q = tq at *
            have hne : d = true ∨ (d = false ∧ bytesBefore p q = false) := by
              cases d
              · exact .inr ⟨rfl, by cases hbb : bytesBefore p q with | false => rfl | true => exact absurd ⟨rfl, hbb⟩ hdone⟩
              · exact .inl rfl
            clear hdone
            rcases hne with rfl | ⟨rfl, hb⟩
            · clear hpd
              go_wp2_with (at_builtin; refine wpList_app rfl (.tmp 42) (.tmp 47) rfl w1.heap.size (.slice ja l1.length jc) l1 rfl hOp (some ⟨wr.heap.size, 0, none⟩) 1 [q] 1 rfl rfl (HTQ.out wr) (fun e => by cases e) (by simp; omega) (by simp; omega) ?_; intro a3 c3 w3 o3 h3)
              go_roundw
              case rel => exact ⟨kk + 1, l1 ++ [q], true, by go_num, by omega, rfl, Lib.hid ⟨by rw [HIT.out, HIT2.out], OwT.one o3, .inr ⟨rfl, by rw [List.length_append, List.length_singleton]; omega⟩, grow_step HJ.out.2.1 HJ.out.2.2.2 tq h3⟩⟩
              case measure => simp [intOf]; omega
            · rw [hb] at hpd
              go_wp2_with (at_builtin; refine wpList_app rfl (.tmp 42) (.tmp 47) rfl w1.heap.size (.slice ja l1.length jc) l1 rfl hOp (some ⟨wr.heap.size, 0, none⟩) 1 [q] 1 rfl rfl (HTQ.out wr) (fun e => by cases e) (by simp; omega) (by simp; omega) ?_; intro a3 c3 w3 o3 h3)
              go_roundw
              case rel => exact ⟨kk + 1, l1 ++ [q], false, by go_num, by omega, rfl, Lib.hid ⟨by rw [HIT.out, HIT2.out], OwT.one o3, .inl (by rw [List.length_append, List.length_singleton]; rcases HLL.out with h | ⟨h, -⟩; omega; cases h), grow_step HJ.out.2.1 HJ.out.2.2.2 tq h3⟩⟩
              case measure => simp [intOf]; omega
        · have hk1' : (ii : Int) ≤ (kk : Int) := by omega
          have e : kk = ii := by omega
          subst e
          have HFI : Hid ((if d then l1 else l1 ++ [p]) = rins p out) := Lib.hid (by
            have h1 := ins_all p out []
            have h2 := HJ.out.1
            rw [← HL.out, List.take_length] at h2
            rw [h2] at h1
            simpa using h1)
          have HWS := Lib.hid HI1.out.below
          clear hrd
          cases d with
          | true =>
            go_wp2
            go_roundw
            case rel => exact ⟨kk + 1, by go_num, by omega, Lib.hid ⟨by rw [HRT.out, ← HFI.out, if_pos rfl]; exact OwT_low HJ.out.2.1 HWS.out.size, HWS.out.trans (HJ.out.2.2.2.mono HWS.out.size), by rw [HRT.out, rins_len, HL.out]; exact Nat.le_refl _⟩⟩
            case measure => simp [intOf]; omega
          | false =>
            have hOp := HJ.out.2.1.new ((Below.refl wr.heap.size wr).alloc (Nat.le_refl _) (.cells #[.string tp] 9))
            go_wp2_with (at_builtin; refine wpList_app rfl (.tmp 51) (.tmp 53) rfl w1.heap.size (.slice ja l1.length jc) l1 rfl hOp (some ⟨wr.heap.size, 0, none⟩) 1 [p] 1 rfl rfl (HT.out wr) (fun e => by cases e) (by simp; omega) (by simp; omega) ?_; intro a3 c3 w3 o3 h3)
            go_roundw
            case rel => exact ⟨kk + 1, by go_num, by omega, Lib.hid ⟨by rw [HRT.out, ← HFI.out, if_neg (by decide)]; exact OwT_low (OwT.one o3) HWS.out.size, HWS.out.trans ((grow_step HJ.out.2.1 HJ.out.2.2.2 tp h3).mono HWS.out.size), by rw [HRT.out, rins_len, HL.out]; exact Nat.le_refl _⟩⟩
            case measure => simp [intOf]; omega
    · have hlt' : (K.length : Int) ≤ (ii : Int) := by omega
      have e : ii = K.length := by omega
      subst e
      rw [List.take_length] at HI hol ⊢
      have hsl := sl_of HI.out.own
      have HE : Hid (Sl wo w.heap.size oa oc (rprints K) ∧ Below w.heap.size w wo) := Lib.hid ⟨hsl.mono HK.out.2.2.2.size, HK.out.2.2.2.trans (HI.out.below.mono HK.out.2.2.2.size)⟩
      rw [hol]
      clear hsl hol
      go_wp2
      go_ret
      exact ⟨oa, oc, rfl, HE.out⟩
end Go.Proofs.YtogihpofkjpokaaGreatDoor
namespace Go.Proofs.YtogihpofkjpokaaGreatDoor
open Go Go.RowKit Go.Maps
open D4 (put Asc Lg Dk dp More)
open F5 (txt txt_size data_txt RdT)

/-- What Collect of a store that is down answers. -/
def DownPost (w : World) (sb d : Nat) (a : Ab) (l : Lg) (G : Nat → Prop) (ps : List (List UInt8)) (e : Ending) (w' : World) : Prop :=
  (restOf a.kept ps = none → e = .returned (.int .i64 6)) ∧ (∀ rest, restOf a.kept ps = some rest → e = .returned (.int .i64 3)) ∧ Str w' sb d a l (More G w w')
theorem DownPost.none {w : World} {sb d : Nat} {a : Ab} {l : Lg} {G : Nat → Prop} {ps : List (List UInt8)} {e : Ending} {w' : World} (h : restOf a.kept ps = none) (h1 : e = .returned (.int .i64 6)) (h2 : Str w' sb d a l (More G w w')) : DownPost w sb d a l G ps e w' :=
  ⟨fun _ => h1, fun rest hr => (by rw [h] at hr; cases hr), h2⟩
theorem DownPost.some {w : World} {sb d : Nat} {a : Ab} {l : Lg} {G : Nat → Prop} {ps : List (List UInt8)} {e : Ending} {w' : World} {rest : Tx} (h : restOf a.kept ps = some rest) (h1 : e = .returned (.int .i64 3)) (h2 : Str w' sb d a l (More G w w')) : DownPost w sb d a l G ps e w' :=
  ⟨fun hr => (by rw [h] at hr; cases hr), fun _ _ => h1, h2⟩
set_option maxRecDepth 100000 in
set_option maxHeartbeats 8000000 in
theorem collect_down {w : World} {sb d : Nat} {a : Ab} {l : Lg} {G : Nat → Prop} (h : Str w sb d a l G) (hd : a.down = true) (av : Option Addr) (c : Nat) (ps : List (List UInt8)) (hR : RdT w av ps) (hps : ∀ p ∈ ps, p.length ≤ 1000) (hn : ps.length ≤ 1000) (hkey : KeyOK a.kept) (hr : a.root.length ≤ 1000) (hl : l.fs.length ≤ 1000) :
    Calls Tryz.prog 17 #[.pointer (some ⟨sb, 0, none⟩), .slice av ps.length c] w fun e w' => DownPost w sb d a l G ps e w' ∧ Ch G w w' := by
  have hg0 := h.g0
  have hpos := h.pos
  obtain ⟨km, fm, D, hS⟩ := h.low
  have HS := Lib.hid hS
  have hmm := @run_makeMap Tryz.prog
  have hnn : (ps.length : Int) ≤ 1000 := by omega
  have HR := Lib.hid hR
  have H0 : Hid (QI w (w.alloc (.map #[] 0)) w.heap.size a.kept ps 0) := Lib.hid ⟨⟨[], rfl, Pile.made w⟩, (Below.refl _ _).alloc (Nat.le_refl _) _, Nat.le_refl _⟩
  have HK := Lib.hid (And.intro hkey (And.intro hr (And.intro hl (And.intro hps hn))))
  have HGZ := Lib.hid (And.intro hg0 hpos)
  have HST := Lib.hid h
  clear h hS hR hkey hr hl hps hg0 hpos
  go_enter Tryz.func17, Tryz.ntmps17
  go_wp2
  go_loopw [7, 8, 9, 16] (fun _ _ _ i wr => ∃ ii : Nat, i = .int .i64 (ii : Int) ∧ ii ≤ ps.length ∧ Hid (QI w wr w.heap.size a.kept ps ii)) (fun _ _ _ i _ => ps.length - (intOf i).toNat)
  case atStart => exact ⟨0, rfl, Nat.zero_le _, H0⟩
  case round =>
    obtain ⟨ii, rfl, hi, HI⟩ := hrel
    clear H0
    have hw := HI.out.below
    have hSr := HS.out.keep (Ch.of_new (S := fun _ => False) hw) (fun _ _ => id) id
    by_cases hlt : ii < ps.length
    · have hlt' : (ii : Int) < (ps.length : Int) := by omega
      have hi0 : (0 : Int) ≤ (ii : Int) := by omega
      obtain ⟨b, off, rfl, hc1⟩ := (HR.out.new hw) ii hlt
      rw [F5.getD_at hlt] at hc1
      have c5 : wr.cell? ⟨sb, 5, none⟩ = some (.map km) := hSr.sd.at_.c5
      have hpl := HK.out.2.2.2.1 _ (List.getElem_mem hlt)
      have hL := hSr.pk.look (txt (ps[ii])) (by rw [txt_size]; omega)
      rw [data_txt] at hL
      cases hlk : D4.look (ps[ii]) a.kept with
      | none =>
        rw [hlk] at hL
        obtain ⟨m, hm, -⟩ := HI.out.pile
        have hstop := Lib.hid (rest_stop hlt hm hlk)
        simp only [cvo, cv, Option.isSome_none] at hL
        clear hSr hlk hm hpl
        generalize txt (ps[ii]) = tp at hc1 hL
        generalize txt [] = te at hL
        go_wp2
        go_ret
        have hb2 : Below w.heap.size w (wr.alloc (.cells #[.string te] 79)) := hw.alloc hw.size _
        exact ⟨DownPost.none hstop.out rfl ((HST.out.new hb2).mono (fun k _ hk => .inl hk) (More.not HGZ.out.1 HGZ.out.2)), Ch.of_new hb2⟩
      | some t =>
        rw [hlk] at hL
        simp only [cvo, cv, Option.isSome_some] at hL
        have PU : Hid (∀ W, Below (wr.alloc (.cells #[.string (txt t)] 79)).heap.size (wr.alloc (.cells #[.string (txt t)] 79)) W → W.cell? ⟨wr.heap.size, 0, none⟩ = some (.string (txt t)) ∧ ∃ w2, (Instr.mapUpdate 71 (.map (some w.heap.size)) (.string (txt (ps[ii]))) (.agg #[.string (txt t)])).run Tryz.prog W = .ok () w2 ∧ QI w w2 w.heap.size a.kept ps (ii + 1)) := Lib.hid fun W hW => by
          have hrow : W.heap[wr.heap.size]? = some (.cells #[.string (txt t)] 79 (0, 0)) := (hW.block _ (by simp)).trans (heap_alloc_new _ _)
          exact ⟨cell_of_row _ _ 0 _ _ _ hrow, HI.out.step hlt hlk (((Below.refl _ _).alloc (Nat.le_refl _) _).trans (hW.mono (by simp))) (by omega) (by omega)⟩
        have HC := Lib.hid (sclone_any (ps[ii]) (by omega))
        have k0 : (wr.alloc (.cells #[.string (txt t)] 79)).cell? ⟨wr.heap.size, 0, none⟩ = some (.string (txt t)) := cell_of_row _ _ 0 _ _ _ (heap_alloc_new _ _)
        clear hSr hlk hpl
        generalize txt (ps[ii]) = tp at hc1 hL HC PU
        generalize txt t = tt at hL PU k0
        go_wp2_with fail
        go_region_with (go_at_call 39; (with_reducible refine (HC.out _).mono ?_); rintro e w3 ⟨rfl, hb3⟩; obtain ⟨c0b, w4, hrun, hQ⟩ := PU.out w3 (D4.undrew hb3); clear hb3)
        all_goals clear hrun c0b
        all_goals go_wp2
        all_goals
          go_roundw
          case rel => exact ⟨ii + 1, by go_num, by omega, Lib.hid hQ⟩
          case measure => simp [intOf]; omega
    · have hlt' : (ps.length : Int) ≤ (ii : Int) := by omega
      have e : ii = ps.length := by omega
      subst e
      obtain ⟨rest, hrest, -⟩ := HI.out.pile
      rw [List.take_length] at hrest
      have c7 : wr.cell? ⟨sb, 7, none⟩ = some (.bool true) := by rw [← hd]; exact hSr.sd.at_.c7
      have HE : Hid (DownPost w sb d a l G ps (.returned (.int .i64 3)) wr) := Lib.hid (DownPost.some hrest rfl ((HST.out.new hw).mono (fun k _ hk => .inl hk) (More.not HGZ.out.1 HGZ.out.2)))
      clear hSr hrest
      go_wp2
      go_ret
      exact ⟨HE.out, Ch.of_new hw⟩
end Go.Proofs.YtogihpofkjpokaaGreatDoor
namespace Go.Proofs.YtogihpofkjpokaaGreatDoor
open Go Go.RowKit
open F5 (txt txt_size data_txt RdT OwT)

/-- Has a store just what the document keeps? -/
structure SameP (a : Ab) (K N : List (List UInt8)) (R : List UInt8) : Prop where
  prints : a.kept.map (·.1) = rprints K
  root : a.root = R
  get : ∀ t ∈ K ++ N, a.get (sha t) = some t
theorem rprints_length (K : List (List UInt8)) : (rprints K).length = K.length := by have := rprints_len K K.length (Nat.le_refl _); rwa [List.take_length] at this
theorem zone_rd {w : World} {g : Nat} {a b : Value} (h : w.heap[g]? = some (.cells #[a, b] 25 (0, 0))) : w.cell? ⟨g, 0, none⟩ = some a ∧ w.cell? ⟨g, 1, none⟩ = some b := ⟨cell_of_row _ _ 0 _ _ _ h, cell_of_row _ _ 1 _ _ _ h⟩
set_option maxRecDepth 100000 in
set_option maxHeartbeats 8000000 in
theorem lsame_any {w : World} {sb d : Nat} {a : Ab} {l : D4.Lg} {G : Nat → Prop} (h : Str w sb d a l G) (hkl : a.kept.length ≤ 1000) {s : DS} {Q : Nat → Prop} (hI : s.In w Q) (hk : s.K.length ≤ 100) (hn : s.N.length ≤ 100) (hx : ∀ x ∈ s.K ++ s.N, x.length ≤ 1000) :
    Calls Tryz.prog 28 #[.pointer (some ⟨sb, 0, none⟩), .agg s.cells] w fun e w' => ∃ b, e = .returned (.bool b) ∧ (b = true ↔ SameP a s.K s.N s.R) ∧ Below w.heap.size w w' := by
  obtain ⟨ka, kc, K, R, na, nc, N⟩ := s
  have hb0 : Below w.heap.size w (w.alloc (.cells (DS.cells ⟨ka, kc, K, R, na, nc, N⟩) 49)) := (Below.refl _ _).alloc (Nat.le_refl _) _
  have hI0 := hI.new hb0
  have hS0 := h.new hb0
  have hD0 : DAt (w.alloc (.cells (DS.cells ⟨ka, kc, K, R, na, nc, N⟩) 49)) w.heap.size ⟨ka, kc, K, R, na, nc, N⟩ := heap_alloc_new w _
  unfold DS.cells at *
  simp only at *
  go_enter Tryz.func28, Tryz.ntmps28
  go_wp2_with fail
  generalize w.alloc (.cells #[.slice ka K.length kc, .string (txt R), .slice na N.length nc] 49) = W at *
  have P13 : Hid (∀ V, Below W.heap.size W V → Calls Tryz.prog 13 #[.pointer (some ⟨sb, 0, none⟩)] V fun e w' => ∃ v c, e = .returned (.slice v a.kept.length c) ∧ RdT w' v (a.kept.map (·.1)) ∧ Below V.heap.size V w') := Lib.hid fun V hV => printsC (hS0.new hV) hkl
  have P47 : Hid (∀ V, Below W.heap.size W V → Calls Tryz.prog 47 #[.agg #[.slice ka K.length kc, .string (txt R), .slice na N.length nc]] V fun e w' => ∃ v c, e = .returned (.slice v K.length c) ∧ RdT w' v (rprints K) ∧ Below V.heap.size V w') := Lib.hid fun V hV => by
    refine (rprints_any (s := ⟨ka, kc, K, R, na, nc, N⟩) (hI0.new hV) hk (fun x hx' => hx x (List.mem_append.2 (.inl hx')))).mono ?_
    rintro e w' ⟨v, c, rfl, hs, hb⟩
    exact ⟨v, c, rfl, hs.rd, hb⟩
  have HD := Lib.hid (And.intro hD0 (And.intro hI0 (And.intro hS0 (And.intro hb0 (And.intro hx (And.intro hk hn))))))
  have c0 : W.cell? ⟨w.heap.size, 0, none⟩ = some (.slice ka K.length kc) := hD0.c0
  have c1 : W.cell? ⟨w.heap.size, 1, none⟩ = some (.string (txt R)) := hD0.c1
  have c2 : W.cell? ⟨w.heap.size, 2, none⟩ = some (.slice na N.length nc) := hD0.c2
  have HC : Hid (∀ V, Below W.heap.size W V → V.cell? ⟨w.heap.size, 0, none⟩ = some (.slice ka K.length kc) ∧ V.cell? ⟨w.heap.size, 1, none⟩ = some (.string (txt R)) ∧ V.cell? ⟨w.heap.size, 2, none⟩ = some (.slice na N.length nc)) := Lib.hid fun V hV => ⟨(HD.out.1.new hV).c0, (HD.out.1.new hV).c1, (HD.out.1.new hV).c2⟩
  clear hD0 hI0 hS0 hb0 hx h hI
  go_region_held3 (fun V => V.cell? ⟨w.heap.size, 0, none⟩ = some (.slice ka K.length kc) ∧ V.cell? ⟨w.heap.size, 1, none⟩ = some (.string (txt R)) ∧ V.cell? ⟨w.heap.size, 2, none⟩ = some (.slice na N.length nc))
    (first | exact ⟨c0, c1, c2⟩ | exact hC2 | exact hC1)
    (first
      | (go_at_call 13; (with_reducible refine (P13.out _ (Below.refl _ _).drew).mono ?_); rintro e w1 ⟨v1, d1, rfl, rk1, hb1⟩; have hB1 := ((Below.refl _ _).drew (B := W.heap.size)).trans hb1; have hC1 := HC.out _ hB1)
      | (go_at_call 47; (with_reducible refine (P47.out _ hB1).mono ?_); rintro e w2 ⟨v2, d2, rfl, rd, hb2⟩; have rk := rk1.new hb2; have hB := hB1.trans (hb2.mono hB1.size); have hC2 := HC.out _ hB)
      | (go_at_call 47; (with_reducible refine (P47.out _ (Below.refl _ _).drew).mono ?_); rintro e w1 ⟨v2, d2, rfl, rd1, hb1⟩; have hB1 := ((Below.refl _ _).drew (B := W.heap.size)).trans hb1; have hC1 := HC.out _ hB1)
      | (go_at_call 13; (with_reducible refine (P13.out _ hB1).mono ?_); rintro e w2 ⟨v1, d1, rfl, rk, hb2⟩; have rd := rd1.new hb2; have hB := hB1.trans (hb2.mono hB1.size); have hC2 := HC.out _ hB))
  clear hC2 hC1 hb1 hb2
  have P14 : Hid (∀ n, Calls Tryz.prog 14 #[.pointer (some ⟨sb, 0, none⟩)] (w2.drewN n) fun e w' => e = .returned (.string (txt a.root)) ∧ w' = w2.drewN n) := Lib.hid fun n => sroot_any ((HD.out.2.2.1.new hB).drewN n)
  have hkr := rprints_length K
  have HX := Lib.hid (And.intro rk (And.intro rd hB))
  have q1 : w2.cell? ⟨w.heap.size, 1, none⟩ = some (.string (txt R)) := (HC.out w2 hB).2.1
  by_cases hlen : a.kept.length = K.length
  · have hl0 : ((a.kept.length : Int) != (K.length : Int)) = false := by rw [hlen]; simp
    by_cases hroot : a.root = R
    · rw [hroot] at P14
      have HRT := Lib.hid (And.intro hroot hlen)
      have hkr2 : (a.kept.map (·.1)).length = K.length := by rw [List.length_map]; exact hlen
      have HKP : Hid (∀ ks : List (List UInt8), a.kept.map (·.1) = ks → (SameP a K N R ↔ ks = rprints K ∧ ∀ t ∈ K ++ N, a.get (sha t) = some t)) := Lib.hid fun ks e => ⟨fun h => ⟨by rw [← e]; exact h.prints, h.get⟩, fun h => ⟨by rw [e]; exact h.1, HRT.out.1, h.2⟩⟩
      have HKP2 := Lib.hid (HKP.out _ rfl)
      rw [hlen]
      generalize a.kept.map (·.1) = ks at *
      obtain ⟨nk, hnk⟩ : ∃ nk, K.length = nk := ⟨_, rfl⟩
      have hnk100 : (nk : Int) ≤ 100 := by omega
      rw [hnk] at hkr hkr2 hl0 hlen ⊢
      have hnk' : nk ≤ 100 := by omega
      have HHK := Lib.hid (And.intro hkr (And.intro hkr2 (And.intro hnk hnk')))
      clear hroot hlen rk rd hB hkr hkr2 hnk hkl hk hnk' hl0
      have hl1 : ((nk : Int) != (nk : Int)) = false := by simp
      generalize txt R = tr at *
      go_wp2
      go_big_quiet ((go_at_call 14; with_reducible exact Calls.quiet_of_same (P14.out _)))
      have hBW : Below W.heap.size W (w2.drewN nq) := HX.out.2.2.trans ((Ch.drewN (fun _ => False) w2 nq).below HX.out.2.2.size fun _ _ => id)
      have hkW : RdT (w2.drewN nq) v1 ks := HX.out.1.new ((Ch.drewN (fun _ => False) w2 nq).below (Nat.le_refl _) fun _ _ => id)
      have hrW : RdT (w2.drewN nq) v2 (rprints K) := HX.out.2.1.new ((Ch.drewN (fun _ => False) w2 nq).below (Nat.le_refl _) fun _ _ => id)
      have HWQ := Lib.hid (And.intro hBW (And.intro hkW hrW))
      clear hBW hkW hrW HX q1
      generalize w2.drewN nq = wq at *
      go_wp2
      go_loopw [7, 8, 33] (fun _ _ i wr => ∃ ii : Nat, i = .int .i64 (ii : Int) ∧ ii ≤ nk ∧ Hid (∀ j, j < ii → ks.getD j [] = (rprints K).getD j []) ∧ wr = wq) (fun _ _ i _ => nk - (intOf i).toNat)
      case atStart => exact ⟨0, rfl, Nat.zero_le _, Lib.hid (fun j hj => by omega), rfl⟩
      case round =>
        obtain ⟨ii, rfl, hi, HE, hw⟩ := hrel
        subst hw
        by_cases hlt : ii < nk
        · have hlt' : (ii : Int) < (nk : Int) := by omega
          have hi0 : (0 : Int) ≤ (ii : Int) := by omega
          obtain ⟨b1, o1, rfl, k1⟩ := HWQ.out.2.1 ii (by have := HHK.out.2.1; omega)
          obtain ⟨b2, o2, rfl, k2⟩ := HWQ.out.2.2 ii (by have := HHK.out.1; omega)
          by_cases he : ks.getD ii [] = (rprints K).getD ii []
          · have HE2 : Hid (∀ j, j < ii + 1 → ks.getD j [] = (rprints K).getD j []) := Lib.hid fun j hj => by
              by_cases e : j = ii
              · rw [e]; exact he
              · exact HE.out j (by omega)
            rw [← he] at k2
            clear he
            generalize txt (ks.getD ii []) = tx at k1 k2
            go_wp2
            go_roundw
            case rel => exact ⟨ii + 1, by go_num, by omega, HE2, trivial⟩
            case measure => simp [intOf]; omega
          · have HN : Hid (¬ SameP a K N R) := Lib.hid fun h => he (by rw [((HKP2.out).1 h).1])
            have hne : ((txt (ks.getD ii [])).toList == (txt ((rprints K).getD ii [])).toList) = false := by rw [F5.txt_eq]; exact decide_eq_false he
            have hne2 : ¬ txt (ks.getD ii []) = txt ((rprints K).getD ii []) := fun e => he (F5.txt_inj e)
            clear he
            generalize txt (ks.getD ii []) = tx at *
            generalize txt ((rprints K).getD ii []) = ty at *
            go_wp2
            go_ret
            exact ⟨false, rfl, ⟨fun h => (by cases h), fun h => absurd h HN.out⟩, HD.out.2.2.2.1.trans (HWQ.out.1.mono HD.out.2.2.2.1.size)⟩
        · have hlt' : (nk : Int) ≤ (ii : Int) := by omega
          have e : ii = nk := by omega
          have HKS : Hid (ks = rprints K) := Lib.hid (List.ext_getElem (by rw [HHK.out.1, HHK.out.2.1]) fun j h1 h2 => by
            have := HE.out j (by have := HHK.out.2.1; omega)
            rwa [F5.getD_at h1, F5.getD_at h2] at this)
          subst e
          obtain ⟨e0, e1, e2⟩ := HC.out _ HWQ.out.1
          go_wp2
          have hrow := heap_alloc_new wr (.cells #[.slice ka K.length kc, .slice na N.length nc] 25)
          have hBZ : Below W.heap.size W (wr.alloc (.cells #[.slice ka K.length kc, .slice na N.length nc] 25)) := HWQ.out.1.alloc HWQ.out.1.size _
          have HZ := Lib.hid (And.intro hrow hBZ)
          clear hrow hBZ e0 e1 e2
          generalize wr.heap.size = g at *
          generalize wr.alloc (.cells #[.slice ka K.length kc, .slice na N.length nc] 25) = Z at *
          have HLI : Hid (∀ V jj, Below Z.heap.size Z V → jj < 2 → ∃ A C X, V.cell? ⟨g, jj, none⟩ = some (.slice A X.length C) ∧ RdT V A X ∧ X.length ≤ 100 ∧ X = (if jj = 0 then K else N)) := Lib.hid fun V jj hV hj => by
            have hr : V.heap[g]? = some (.cells #[.slice ka K.length kc, .slice na N.length nc] 25 (0, 0)) := (hV.block g (F5.lt_of_heap HZ.out.1)).trans HZ.out.1
            obtain ⟨z0, z1⟩ := zone_rd hr
            have hI := HD.out.2.1.new (HZ.out.2.trans (hV.mono HZ.out.2.size))
            by_cases h0 : jj = 0
            · subst h0
              exact ⟨ka, kc, K, z0, hI.k, HD.out.2.2.2.2.2.1, rfl⟩
            · have h1 : jj = 1 := by omega
              subst h1
              exact ⟨na, nc, N, z1, hI.n, HD.out.2.2.2.2.2.2, rfl⟩
          have HEND : Hid (∀ V, Below Z.heap.size Z V → Below w.heap.size w V) := Lib.hid fun V hV => HD.out.2.2.2.1.trans ((HZ.out.2.trans (hV.mono HZ.out.2.size)).mono HD.out.2.2.2.1.size)
          go_loopw [10, 12, 13, 14, 51] (fun _ _ _ _ j wr => ∃ jj : Nat, j = .int .i64 (jj : Int) ∧ jj ≤ 2 ∧ Hid ((0 < jj → ∀ t ∈ K, a.get (sha t) = some t) ∧ (1 < jj → ∀ t ∈ N, a.get (sha t) = some t) ∧ Below Z.heap.size Z wr)) (fun _ _ _ _ j _ => 2 - (intOf j).toNat)
          case atStart => exact ⟨0, rfl, by omega, Lib.hid ⟨fun h => by omega, fun h => by omega, Below.refl _ _⟩⟩
          case round =>
            obtain ⟨jj, rfl, hjj, HJ⟩ := hrel
            obtain ⟨wo, rfl⟩ : ∃ x, x = wr := ⟨_, rfl⟩
            by_cases hj2 : jj < 2
            · have hj2' : (jj : Int) < 2 := by omega
              have hj0 : (0 : Int) ≤ (jj : Int) := by omega
              obtain ⟨A, C, X, kx, hrX, hX100, hXe⟩ := HLI.out wo jj HJ.out.2.2 hj2
              have hXI : (X.length : Int) ≤ 100 := by omega
              have HXX := Lib.hid (And.intro hrX (And.intro hXe hX100))
              clear hrX hXe hX100
              go_wp2
              go_loopw [12, 13, 14, 57] (fun _ _ _ k wr => ∃ kk : Nat, k = .int .i64 (kk : Int) ∧ kk ≤ X.length ∧ Hid ((∀ j, j < kk → a.get (sha (X.getD j [])) = some (X.getD j [])) ∧ Below wo.heap.size wo wr)) (fun _ _ _ k _ => X.length - (intOf k).toNat)
              case atStart => exact ⟨0, rfl, Nat.zero_le _, Lib.hid ⟨fun j hj => by omega, Below.refl _ _⟩⟩
              case round =>
                obtain ⟨kk, rfl, hkk, HQ⟩ := hrel
                by_cases hk1 : kk < X.length
                · have hk1' : (kk : Int) < (X.length : Int) := by omega
                  have hk0 : (0 : Int) ≤ (kk : Int) := by omega
                  obtain ⟨xb, xo, rfl, kc1⟩ := (HXX.out.1.new HQ.out.2) kk hk1
                  have hmem : X.getD kk [] ∈ K ++ N := by
                    rw [F5.getD_at hk1]
                    have hm := List.getElem_mem hk1
                    have he := HXX.out.2.1
                    rw [List.mem_append]
                    by_cases h0 : jj = 0
                    · rw [if_pos h0] at he; exact .inl (he ▸ hm)
                    · rw [if_neg h0] at he; exact .inr (he ▸ hm)
                  have hxl := HD.out.2.2.2.2.1 _ hmem
                  have HSTEP : Hid (a.get (sha (X.getD kk [])) = some (X.getD kk []) → ∀ j, j < kk + 1 → a.get (sha (X.getD j [])) = some (X.getD j [])) := Lib.hid fun h j hj => by
                    by_cases e : j = kk
                    · rw [e]; exact h
                    · exact HQ.out.1 j (by omega)
                  have HMEM := Lib.hid hmem
                  clear hmem
                  generalize X.getD kk [] = t at kc1 hxl HSTEP HMEM
                  have P22 := Lib.hid (rprint_txt t (by omega))
                  have hBo : Below Z.heap.size Z wr := HJ.out.2.2.trans (HQ.out.2.mono HJ.out.2.2.size)
                  have P18 : Hid (∀ V, Below wr.heap.size wr V → Calls Tryz.prog 18 #[.pointer (some ⟨sb, 0, none⟩), .string (txt (sha t))] V fun e w' => e = .returned (.tuple #[.string (txt (txo (a.get (sha t)))), .bool (a.get (sha t)).isSome]) ∧ Below V.heap.size V w') := Lib.hid fun V hV => sget_any (HD.out.2.2.1.new (HZ.out.2.trans ((hBo.trans (hV.mono hBo.size)).mono HZ.out.2.size))) (sha t) (by rw [sha_len]; omega)
                  have HB9 := Lib.hid hBo
                  clear hBo
                  cases hg : a.get (sha t) with
                  | none =>
                    have HN : Hid (¬ SameP a K N R) := Lib.hid fun h => by have := h.get t HMEM.out; rw [hg] at this; cases this
                    rw [hg] at P18
                    simp only [txo, Option.isSome_none] at P18
                    clear hg
                    generalize txt (sha t) = ts at *
                    generalize txt [] = te at *
                    generalize txt t = tt at *
                    go_wp2_with (first
                      | (go_at_call 22; (with_reducible refine (P22.out _).mono ?_); rintro e w3 ⟨rfl, hb3⟩)
                      | (go_at_call 18; (with_reducible refine (P18.out _ hb3).mono ?_); rintro e w4 ⟨rfl, hb4⟩))
                    go_ret
                    exact ⟨false, rfl, ⟨fun h => (by cases h), fun h => absurd h HN.out⟩, HEND.out _ (HB9.out.trans ((hb3.trans (hb4.mono hb3.size)).mono HB9.out.size))⟩
                  | some u =>
                    rw [hg] at P18
                    simp only [txo, Option.isSome_some] at P18
                    by_cases hu : u = t
                    · have HG : Hid (a.get (sha t) = some t) := Lib.hid (by rw [hg, hu])
                      rw [hu] at P18
                      clear hg hu
                      generalize txt (sha t) = ts at *
                      generalize txt t = tt at *
                      go_wp2_with (first
                        | (go_at_call 22; (with_reducible refine (P22.out _).mono ?_); rintro e w3 ⟨rfl, hb3⟩)
                        | (go_at_call 18; (with_reducible refine (P18.out _ hb3).mono ?_); rintro e w4 ⟨rfl, hb4⟩))
                      go_roundw
                      case rel => exact ⟨kk + 1, by go_num, by omega, Lib.hid ⟨HSTEP.out HG.out, HQ.out.2.trans ((hb3.trans (hb4.mono hb3.size)).mono HQ.out.2.size)⟩⟩
                      case measure => simp [intOf]; omega
                    · have HN : Hid (¬ SameP a K N R) := Lib.hid fun h => hu (by have := h.get t HMEM.out; rw [hg] at this; exact Option.some.inj this)
                      have hne : ((txt u).toList == (txt t).toList) = false := by rw [F5.txt_eq]; exact decide_eq_false hu
                      have hne2 : ¬ txt u = txt t := fun e => hu (F5.txt_inj e)
                      clear hg hu
                      generalize txt (sha t) = ts at *
                      generalize txt u = tu at *
                      generalize txt t = tt at *
                      go_wp2_with (first
                        | (go_at_call 22; (with_reducible refine (P22.out _).mono ?_); rintro e w3 ⟨rfl, hb3⟩)
                        | (go_at_call 18; (with_reducible refine (P18.out _ hb3).mono ?_); rintro e w4 ⟨rfl, hb4⟩))
                      go_ret
                      exact ⟨false, rfl, ⟨fun h => (by cases h), fun h => absurd h HN.out⟩, HEND.out _ (HB9.out.trans ((hb3.trans (hb4.mono hb3.size)).mono HB9.out.size))⟩
                · have hk1' : (X.length : Int) ≤ (kk : Int) := by omega
                  have HALL : Hid (∀ t ∈ X, a.get (sha t) = some t) := Lib.hid fun t ht => by
                    obtain ⟨j, hj, e⟩ := List.getElem_of_mem ht
                    have := HQ.out.1 j (by omega)
                    rw [F5.getD_at hj, e] at this
                    exact this
                  go_wp2
                  go_roundw
                  case rel =>
                    refine ⟨jj + 1, by go_num, by omega, Lib.hid ⟨fun _ t ht => ?_, fun h1 t ht => ?_, HJ.out.2.2.trans (HQ.out.2.mono HJ.out.2.2.size)⟩⟩
                    · by_cases h0 : jj = 0
                      · have he := HXX.out.2.1
                        rw [if_pos h0] at he
                        exact HALL.out t (he ▸ ht)
                      · exact HJ.out.1 (by omega) t ht
                    · have he := HXX.out.2.1
                      rw [if_neg (by omega)] at he
                      exact HALL.out t (he ▸ ht)
                  case measure => simp [intOf]; omega
            · have hj2' : (2 : Int) ≤ (jj : Int) := by omega
              have HT : Hid (SameP a K N R) := Lib.hid ((HKP2.out).2 ⟨HKS.out, fun t ht => (List.mem_append.1 ht).elim (HJ.out.1 (by omega) t) (HJ.out.2.1 (by omega) t)⟩)
              go_wp2
              go_ret
              exact ⟨true, rfl, ⟨fun _ => HT.out, fun _ => rfl⟩, HEND.out _ HJ.out.2.2⟩
    · have HN : Hid (¬ SameP a K N R) := Lib.hid fun h => hroot h.root
      have hne : ((txt a.root).toList == (txt R).toList) = false := by rw [F5.txt_eq]; exact decide_eq_false hroot
      have hne2 : ¬ txt a.root = txt R := fun e => hroot (F5.txt_inj e)
      rw [hlen] at hl0 ⊢
      clear hlen rk rd hB hroot
      generalize txt a.root = ta at *
      generalize txt R = tr at *
      go_wp2
      go_big_quiet ((go_at_call 14; with_reducible exact Calls.quiet_of_same (P14.out _)))
      go_wp2
      go_ret
      exact ⟨false, rfl, ⟨fun h => (by cases h), fun h => absurd h HN.out⟩, HD.out.2.2.2.1.trans ((HX.out.2.2.trans ((Ch.drewN (fun _ => False) w2 nq).below HX.out.2.2.size fun _ _ => id)).mono HD.out.2.2.2.1.size)⟩
  · have hl0 : ((a.kept.length : Int) != (K.length : Int)) = true := by simp; omega
    have HN : Hid (¬ SameP a K N R) := Lib.hid fun h => hlen (by have := congrArg List.length h.prints; rw [List.length_map, hkr] at this; exact this)
    clear hlen rk rd hB
    go_wp2
    go_big_quiet (fail)
    go_wp2
    go_ret
    exact ⟨false, rfl, ⟨fun h => (by cases h), fun h => absurd h HN.out⟩, HD.out.2.2.2.1.trans ((HX.out.2.2.trans ((Ch.drewN (fun _ => False) w2 nq).below HX.out.2.2.size fun _ _ => id)).mono HD.out.2.2.2.1.size)⟩
end Go.Proofs.YtogihpofkjpokaaGreatDoor
namespace Go.Proofs.YtogihpofkjpokaaGreatDoor
open Go Go.RowKit Go.Maps
open D4 (put Asc Lg Dk dp More RdI)
open F5 (txt txt_size data_txt RdT OwT)

/-- An act. -/
structure Ac where
  what : Int
  n : Int
  text : List UInt8
  picks : List Int
  raw : Bool
structure Xa where
  ac : Ac
  ka : Option Addr
  kc : Nat
def Xa.zero : Xa := ⟨⟨0, 0, [], [], false⟩, none, 0⟩
def Xa.cells (x : Xa) : Array Value := #[.int .i64 x.ac.what, .int .i64 x.ac.n, .string (txt x.ac.text), .slice x.ka x.ac.picks.length x.kc, .bool x.ac.raw]
def Xa.ok (x : Xa) : Prop := (-9223372036854775808 ≤ x.ac.n ∧ x.ac.n ≤ 9223372036854775807) ∧ (-9223372036854775808 ≤ x.ac.what ∧ x.ac.what ≤ 9223372036854775807) ∧ x.ac.text.length ≤ 9223372036854775807 ∧ x.ac.picks.length ≤ 9223372036854775807
/-- The slice of the address has these acts. -/
def RdA (w : World) (a : Option Addr) (xs : List Xa) : Prop :=
  ∀ i, (h : i < xs.length) → (∃ b off, a = some ⟨b, off, none⟩ ∧ w.cell? ⟨b, off + i * 5, none⟩ = some (.int .i64 xs[i].ac.what) ∧ w.cell? ⟨b, off + i * 5 + 1, none⟩ = some (.int .i64 xs[i].ac.n) ∧ w.cell? ⟨b, off + i * 5 + 2, none⟩ = some (.string (txt xs[i].ac.text)) ∧ w.cell? ⟨b, off + i * 5 + 3, none⟩ = some (.slice xs[i].ka xs[i].ac.picks.length xs[i].kc) ∧ w.cell? ⟨b, off + i * 5 + 4, none⟩ = some (.bool xs[i].ac.raw)) ∧
    RdI w xs[i].ka xs[i].ac.picks ∧ (∀ ad, xs[i].ka = some ad → xs[i].ac.picks ≠ [] → ad.block < w.heap.size) ∧ xs[i].ok
theorem RdI_keep {P : Nat → Prop} {w w' : World} {a : Option Addr} {xs : List Int} (h : RdI w a xs) (hc : Ch P w w') (hs : ∀ ad, a = some ad → xs ≠ [] → ¬ P ad.block) : RdI w' a xs := fun i hi => by
  obtain ⟨b, off, ha, h1⟩ := h i hi
  exact ⟨b, off, ha, hc.cell (p := ⟨b, off + i, none⟩) h1 (hs ⟨b, off, none⟩ ha (by rintro rfl; simp at hi))⟩
theorem RdA.keep {w V : World} {a : Option Addr} {xs : List Xa} (h : RdA w a xs) (hb : Below w.heap.size w V) : RdA V a xs := fun i hi => by
  obtain ⟨⟨b, off, ha, c0, c1, c2, c3, c4⟩, hI, hb2, ho⟩ := h i hi
  have hc : Ch (fun _ => False) w V := Ch.of_new hb
  exact ⟨⟨b, off, ha, hc.cell c0 id, hc.cell c1 id, hc.cell c2 id, hc.cell c3 id, hc.cell c4 id⟩, RdI_keep hI hc (fun _ _ _ => id), fun ad e hne => Nat.lt_of_lt_of_le (hb2 ad e hne) hb.size, ho⟩
/-- What an act takes of the room; what its frames do. -/
def rmA (xs : List Xa) : Nat := (xs.map fun x => 4 * x.ac.text.length + 100).sum
def bsA (xs : List Xa) : Nat := (xs.map fun x => 13 + x.ac.text.length).sum
theorem rmA_take {xs : List Xa} {i : Nat} (h : i < xs.length) : rmA (xs.take (i + 1)) = rmA (xs.take i) + (4 * xs[i].ac.text.length + 100) := by
  unfold rmA; rw [List.take_succ_eq_append_getElem h, List.map_append, List.sum_append]; simp
theorem bsA_take {xs : List Xa} {i : Nat} (h : i < xs.length) : bsA (xs.take (i + 1)) = bsA (xs.take i) + (13 + xs[i].ac.text.length) := by
  unfold bsA; rw [List.take_succ_eq_append_getElem h, List.map_append, List.sum_append]; simp
theorem bsA_rm : ∀ xs : List Xa, 3 * bsA xs ≤ rmA xs
  | [] => by simp [bsA, rmA]
  | x :: xs => by have := bsA_rm xs; unfold bsA rmA at this ⊢; simp only [List.map_cons, List.sum_cons]; omega
theorem bsA_le : ∀ (xs : List Xa) (i : Nat), bsA (xs.take i) ≤ bsA xs
  | [], i => by simp [bsA]
  | x :: xs, 0 => by simp [bsA]
  | x :: xs, i + 1 => by have := bsA_le xs i; unfold bsA at this ⊢; simp only [List.take_succ_cons, List.map_cons, List.sum_cons]; omega
/-- Acts that are played. -/
def Fine (xs : List Xa) : Prop := xs.length ≤ 40 ∧ ∀ x ∈ xs, x.ac.text.length ≤ 500 ∧ x.ac.picks.length ≤ 40
theorem rmA_fine : ∀ xs : List Xa, (∀ x ∈ xs, x.ac.text.length ≤ 500 ∧ x.ac.picks.length ≤ 40) → rmA xs ≤ 2100 * xs.length
  | [], _ => by simp [rmA]
  | x :: xs, h => by have := rmA_fine xs fun y hy => h y (by simp [hy]); have := (h x (by simp)).1; unfold rmA at *; simp only [List.map_cons, List.sum_cons, List.length_cons]; omega
set_option maxRecDepth 100000 in
set_option maxHeartbeats 4000000 in
theorem size_any {w : World} {a : Option Addr} {c : Nat} {xs : List Xa} (hR : RdA w a xs) (hl : xs.length ≤ maxLen) :
    Calls Tryz.prog 19 #[.slice a xs.length c] w fun e w' => ((Fine xs ∧ e = .returned (.tuple #[.int .i64 ((2000 + rmA xs : Nat) : Int), .bool true])) ∨ (¬ Fine xs ∧ e = .returned (.tuple #[.int .i64 0, .bool false]))) ∧ Below w.heap.size w w' := by
  unfold maxLen at hl
  by_cases h1 : 40 < xs.length
  · have h1' : (40 : Int) < (xs.length : Int) := by omega
    have HN : Hid (¬ Fine xs) := Lib.hid fun h => by have := h.1; omega
    clear hR h1 hl
    go_enter Tryz.func19, Tryz.ntmps19
    go_wp2
    go_ret2
    exact ⟨.inr ⟨HN.out, rfl⟩, Below.refl _ _⟩
  have h1' : (xs.length : Int) ≤ 40 := by omega
  have HR := Lib.hid (And.intro hR h1)
  clear hR h1 hl
  go_enter Tryz.func19, Tryz.ntmps19
  go_wp2
  go_loopw [4, 6, 12] (fun n _ i wr => ∃ ii : Nat, i = .int .i64 (ii : Int) ∧ ii ≤ xs.length ∧ n = .int .i64 ((2000 + rmA (xs.take ii) : Nat) : Int) ∧ Hid ((∀ x ∈ xs.take ii, x.ac.text.length ≤ 500 ∧ x.ac.picks.length ≤ 40) ∧ Below w.heap.size w wr)) (fun _ _ i _ => xs.length - (intOf i).toNat)
  case atStart => exact ⟨0, rfl, Nat.zero_le _, rfl, Lib.hid ⟨fun x hx => by simp at hx, Below.refl _ _⟩⟩
  case round =>
    obtain ⟨ii, rfl, hi, rfl, HI⟩ := hrel
    have hrm := rmA_fine _ HI.out.1
    rw [List.length_take] at hrm
    by_cases hlt : ii < xs.length
    · have hlt' : (ii : Int) < (xs.length : Int) := by omega
      have hi0 : (0 : Int) ≤ (ii : Int) := by omega
      obtain ⟨⟨b, off, rfl, k0, k1, k2, k3, k4⟩, -, -, hok⟩ := (HR.out.1.keep HI.out.2) ii hlt
      have hmem := List.getElem_mem hlt
      have hrt := rmA_take hlt
      have HXT : Hid (xs[ii].ac.text.length ≤ 500 ∧ xs[ii].ac.picks.length ≤ 40 → ∀ x ∈ xs.take (ii + 1), x.ac.text.length ≤ 500 ∧ x.ac.picks.length ≤ 40) := Lib.hid fun h x hx => by
        rw [List.take_succ_eq_append_getElem hlt] at hx
        rcases List.mem_append.1 hx with hx | hx
        · exact HI.out.1 x hx
        · rw [List.mem_singleton.1 hx]; exact h
      have HNT : Hid (Fine xs → xs[ii].ac.text.length ≤ 500 ∧ xs[ii].ac.picks.length ≤ 40) := Lib.hid fun h => h.2 _ hmem
      obtain ⟨-, -, ht, hp⟩ := hok
      generalize xs[ii] = x at *
      obtain ⟨⟨what, n, text, picks, raw⟩, ka, kc⟩ := x
      simp only at k0 k1 k2 k3 k4 ht hp hrt HXT HNT
      have hzx := txt_size text
      obtain ⟨rt, hrte⟩ : ∃ rt, rmA (xs.take ii) = rt := ⟨_, rfl⟩
      rw [hrte] at hrm hrt ⊢
      have hrm' : (rt : Int) ≤ 84000 := by omega
      have HRT := Lib.hid (And.intro hrt hrte)
      have ht' : (text.length : Int) ≤ 9223372036854775807 := by omega
      have hp' : (picks.length : Int) ≤ 9223372036854775807 := by omega
      clear hrt hrte hrm hmem
      by_cases h5 : text.length ≤ 500
      · have h5' : (text.length : Int) ≤ 500 := by omega
        by_cases h4 : picks.length ≤ 40
        · have h4' : (picks.length : Int) ≤ 40 := by omega
          have HX2 := Lib.hid (HXT.out ⟨h5, h4⟩)
          clear h5 h4 ht hp
          generalize txt text = tx at *
          go_wp2
          go_roundw
          case rel =>
            refine ⟨ii + 1, by go_num, by omega, ?_, Lib.hid ⟨HX2.out, HI.out.2.alloc HI.out.2.size _⟩⟩
            rw [HRT.out.1]
            congr 1
            omega
          case measure => simp [intOf]; omega
        · have h4' : (40 : Int) < (picks.length : Int) := by omega
          have HN : Hid (¬ Fine xs) := Lib.hid fun h => h4 (HNT.out h).2
          clear h5 h4 ht hp
          generalize txt text = tx at *
          go_wp2
          go_ret2
          exact ⟨.inr ⟨HN.out, rfl⟩, HI.out.2.alloc HI.out.2.size _⟩
      · have h5' : (500 : Int) < (text.length : Int) := by omega
        have HN : Hid (¬ Fine xs) := Lib.hid fun h => h5 (HNT.out h).1
        clear h5 ht hp
        generalize txt text = tx at *
        go_wp2
        go_ret2
        exact ⟨.inr ⟨HN.out, rfl⟩, HI.out.2.alloc HI.out.2.size _⟩
    · have hlt' : (xs.length : Int) ≤ (ii : Int) := by omega
      have e : ii = xs.length := by omega
      have HF : Hid (Fine xs) := Lib.hid ⟨by have := HR.out.2; omega, by have := HI.out.1; rwa [e, List.take_length] at this⟩
      have HE : Hid (xs.take ii = xs) := Lib.hid (by rw [e, List.take_length])
      clear hrm
      go_wp2
      go_ret2
      rw [HE.out]
      exact ⟨.inl ⟨HF.out, rfl⟩, HI.out.2⟩
/-- Those of a store's fingerprints whose numbers are picked. -/
def pickOne (l : List (List UInt8)) (n : Int) : List (List UInt8) := if 0 ≤ n ∧ n < l.length then [l.getD n.toNat []] else []
def pickL (l : List (List UInt8)) (ns : List Int) : List (List UInt8) := ns.flatMap (pickOne l)
theorem pickL_take {l : List (List UInt8)} {ns : List Int} {i : Nat} (h : i < ns.length) : pickL l (ns.take (i + 1)) = pickL l (ns.take i) ++ pickOne l (ns.getD i 0) := by
  unfold pickL
  rw [List.take_succ_eq_append_getElem h, List.flatMap_append, List.getD_eq_getElem?_getD, List.getElem?_eq_getElem h]; simp
theorem pickOne_len (l : List (List UInt8)) (n : Int) : (pickOne l n).length ≤ 1 := by unfold pickOne; split <;> simp
theorem pickL_len (l : List (List UInt8)) : ∀ ns : List Int, (pickL l ns).length ≤ ns.length
  | [] => by simp [pickL]
  | n :: ns => by have := pickL_len l ns; have := pickOne_len l n; unfold pickL at *; simp only [List.flatMap_cons, List.length_append, List.length_cons]; omega
theorem pickL_mem {l : List (List UInt8)} {ns : List Int} {x : List UInt8} (h : x ∈ pickL l ns) : x ∈ l := by
  unfold pickL at h
  obtain ⟨n, _, hx⟩ := List.mem_flatMap.1 h
  unfold pickOne at hx
  split at hx
  · rename_i hn
    rw [List.mem_singleton.1 hx, F5.getD_at (by omega)]
    exact List.getElem_mem _
  · cases hx
section
attribute [-go_sem] Builtin.append_
set_option maxRecDepth 100000 in
set_option maxHeartbeats 4000000 in
theorem lprints_any {w : World} {a : Option Addr} {c : Nat} {l : List (List UInt8)} (hR : RdT w a l) (hl : l.length ≤ 1000) {ka : Option Addr} {kc : Nat} {ns : List Int} (hN : RdI w ka ns) (hn : ns.length ≤ 40) :
    Calls Tryz.prog 25 #[.slice a l.length c, .slice ka ns.length kc] w fun e w' => ∃ b d, e = .returned (.slice b (pickL l ns).length d) ∧ OwT w' w.heap.size (.slice b (pickL l ns).length d) (pickL l ns) ∧ Below w.heap.size w w' := by
  have hl' : (l.length : Int) ≤ 1000 := by omega
  have hn' : (ns.length : Int) ≤ 40 := by omega
  have HR := Lib.hid (And.intro hR hN)
  clear hR hN
  go_enter Tryz.func25, Tryz.ntmps25
  go_wp2
  go_loopw [5, 7, 10] (fun v _ i wr => ∃ ii : Nat, i = .int .i64 (ii : Int) ∧ ii ≤ ns.length ∧ Hid (OwT wr w.heap.size v (pickL l (ns.take ii)) ∧ Below w.heap.size w wr)) (fun _ _ i _ => ns.length - (intOf i).toNat)
  case atStart => exact ⟨0, rfl, Nat.zero_le _, Lib.hid ⟨OwT.nil _ _, Below.refl _ _⟩⟩
  case round =>
    obtain ⟨ii, rfl, hi, HI⟩ := hrel
    obtain ⟨pa, pc, hv, -⟩ := HI.out.1.rd
    subst hv
    have hpl := pickL_len l (ns.take ii)
    rw [List.length_take] at hpl
    by_cases hlt : ii < ns.length
    · have hlt' : (ii : Int) < (ns.length : Int) := by omega
      have hi0 : (0 : Int) ≤ (ii : Int) := by omega
      obtain ⟨nb, noff, rfl, kn⟩ := (RdI_keep HR.out.2 (Ch.of_new (S := fun _ => False) HI.out.2) (fun _ _ _ => id)) ii hlt
      have HPT := Lib.hid (pickL_take (l := l) hlt)
      generalize ns.getD ii 0 = n at kn HPT
      by_cases h0 : 0 ≤ n
      · by_cases h2 : n < (l.length : Int)
        · obtain ⟨m, rfl⟩ : ∃ m : Nat, n = (m : Int) := ⟨n.toNat, by omega⟩
          have hml : m < l.length := by omega
          obtain ⟨lb, loff, rfl, kl⟩ := (HR.out.1.new HI.out.2) m hml
          have HP : Hid (pickOne l (m : Int) = [l.getD m []]) := Lib.hid (if_pos ⟨h0, h2⟩)
          generalize l.getD m [] = t at kl HP
          have HT := Lib.hid (fun W => one_rd W t)
          have hO := HI.out.1.new ((Below.refl wr.heap.size wr).alloc (Nat.le_refl _) (.cells #[.string (txt t)] 9))
          have z0 := HI.out.2.size
          generalize txt t = tt at *
          obtain ⟨pl, hple⟩ : ∃ pl, pickL l (ns.take ii) = pl := ⟨_, rfl⟩
          rw [hple] at HI HPT hpl hO ⊢
          clear hple
          go_wp2_with (at_builtin; refine wpList_app rfl (.tmp 22) (.tmp 27) rfl w.heap.size (.slice pa pl.length pc) pl rfl hO (some ⟨wr.heap.size, 0, none⟩) 1 [t] 1 rfl rfl (HT.out wr) (fun e => by cases e) (by simp; omega) (by simp; omega) ?_; intro a3 c3 w3 o3 h3)
          go_roundw
          case rel =>
            have hB : Below w.heap.size w (wr.alloc (.cells #[.string tt] 9)) := HI.out.2.alloc z0 _
            exact ⟨ii + 1, by go_num, by omega, Lib.hid ⟨by rw [HPT.out, HP.out]; exact OwT.one o3, hB.trans (h3.below hB.size fun k hk e => by have := (HI.out.1.own k e).1; omega)⟩⟩
          case measure => simp [intOf]; omega
        · have h2' : (l.length : Int) ≤ n := by omega
          have HP : Hid (pickOne l n = []) := Lib.hid (if_neg fun h => h2 h.2)
          clear h2
          go_wp2
          go_roundw
          case rel => exact ⟨ii + 1, by go_num, by omega, Lib.hid ⟨by rw [HPT.out, HP.out, List.append_nil]; exact HI.out.1, HI.out.2⟩⟩
          case measure => simp [intOf]; omega
      · have h0' : n < 0 := by omega
        have HP : Hid (pickOne l n = []) := Lib.hid (if_neg fun h => h0 h.1)
        clear h0
        go_wp2
        go_roundw
        case rel => exact ⟨ii + 1, by go_num, by omega, Lib.hid ⟨by rw [HPT.out, HP.out, List.append_nil]; exact HI.out.1, HI.out.2⟩⟩
        case measure => simp [intOf]; omega
    · have hlt' : (ns.length : Int) ≤ (ii : Int) := by omega
      have e : ii = ns.length := by omega
      subst e
      rw [List.take_length] at HI ⊢
      go_wp2
      go_ret
      exact ⟨pa, pc, rfl, HI.out⟩
end
/-- Fuel of a store's disk. -/
theorem fuelC {w : World} {sb d : Nat} {a : Ab} {l : Lg} {G : Nat → Prop} (h : Str w sb d a l G) (n : Int) (hn : -9223372036854775808 ≤ n ∧ n ≤ 9223372036854775807) :
    Calls Tryz.prog 27 #[.pointer (some ⟨d, 0, none⟩), .int .i64 n] w fun e w' => e = .returned (.tuple #[]) ∧ Str w' sb d a { l with lim := decide (0 ≤ n), fuel := n } (More G w w') ∧ Ch G w w' := by
  obtain ⟨km, fm, D, h⟩ := h
  obtain ⟨s, hA, hl, hF⟩ := h.sd.dk
  subst hl
  have hdD : D d := hF d (.inl rfl)
  refine (D4.fuel_any hA n hn).mono ?_
  rintro e w' ⟨rfl, hA', hc⟩
  have hc' : Ch D w w' := hc.mono fun k _ e => e ▸ hdD
  exact ⟨rfl, ⟨km, fm, _, h.disk (D' := D) (l' := { s.lg with lim := decide (0 ≤ n), fuel := n }) ⟨_, hA', rfl, fun k hk => .inl (hF k (D4.Foot.head (s := s) rfl rfl hk))⟩ (fun _ => id) hc'⟩, hc'.mono fun k _ hk => h.foot k (.inr (.inr (.inr hk)))⟩
theorem fuelD {w : World} {d : Nat} {l : Lg} {G : Nat → Prop} (h : Dk w d l G) (n : Int) (hn : -9223372036854775808 ≤ n ∧ n ≤ 9223372036854775807) :
    Calls Tryz.prog 27 #[.pointer (some ⟨d, 0, none⟩), .int .i64 n] w fun e w' => e = .returned (.tuple #[]) ∧ Dk w' d { l with lim := decide (0 ≤ n), fuel := n } G ∧ Ch G w w' := by
  obtain ⟨s, hA, hl, hF⟩ := h
  subst hl
  refine (D4.fuel_any hA n hn).mono ?_
  rintro e w' ⟨rfl, hA', hc⟩
  exact ⟨rfl, ⟨_, hA', rfl, fun k hk => hF k (D4.Foot.head (s := s) rfl rfl hk)⟩, hc.mono fun k _ e => e ▸ hF d (.inl rfl)⟩
end Go.Proofs.YtogihpofkjpokaaGreatDoor
namespace Go.Proofs.YtogihpofkjpokaaGreatDoor
open Go Go.RowKit Go.Maps
open D4 (put Asc)
open F5 (txt txt_size txt_data data_txt)

/-- Texts by texts, in a map of the law's own. -/
def svS (t : List UInt8) : Value := .string (txt t)
def rdS : Value → Option (DataW Nat × List MemPlace)
  | .string s => some (.lit (.string s.data.toList), [])
  | _ => none
theorem rdS_sv (t : List UInt8) : rdS (svS t) = some (.lit (.string t), []) := rfl
theorem rdS_inv {v : Value} {t : List UInt8} {ps : List MemPlace} (h : rdS v = some (.lit (.string t), ps)) : v = svS t := by
  unfold rdS at h
  split at h
  · rename_i s
    simp only [Option.some.injEq, Prod.mk.injEq, DataW.lit.injEq, Lit.string.injEq] at h
    unfold svS
    rw [← h.1, txt_data]
  · cases h
def svo : Option (List UInt8) → Value
  | none => svS []
  | some t => svS t
theorem zeroS (w : World) : (zeroValue 9).run Tryz.prog w = .ok (svS []) w := Tryz.zeroValue9 w
/-- The law's map has these. -/
structure Seen (w : World) (b : Nat) (l : Tx) : Prop where
  asc : Asc l
  map : w.ownsMap Tryz.prog 9 rdS b l.length (datT l)
theorem Seen.new {w w' : World} {b : Nat} {l : Tx} (h : Seen w b l) (hb : Below w.heap.size w w') : Seen w' b l := by
  refine ⟨h.asc, ?_⟩
  have hlt := h.map.lt
  obtain ⟨es, clock, hbk, F, hs', hD⟩ := h.map
  exact ⟨es, clock, (hb.block b hlt).trans hbk, F, hs', hD⟩
theorem Seen.look {w : World} {b : Nat} {l : Tx} (h : Seen w b l) (n : ByteArray) (hn : n.size ≤ 1000000000) :
    (Instr.lookup 59 (.map (some b)) (.string n) true).run Tryz.prog w = .ok (.tuple #[svo (D4.look n.data.toList l), .bool (D4.look n.data.toList l).isSome]) w := by
  obtain ⟨v, ps, hr, hv⟩ := h.map.look_ok (string_keyed Tryz.underlying9) Tryz.underlying59 (zeroS w) (rdS_sv []) (D4.keyS n hn)
  rw [hr, datT_has]
  rw [datT_at] at hv
  cases hl : D4.look n.data.toList l with
  | none => rw [hl] at hv; rw [rdS_inv hv]; rfl
  | some f => rw [hl] at hv; rw [rdS_inv hv]; rfl
theorem Seen.update {w : World} {b : Nat} {l : Tx} (h : Seen w b l) (n : ByteArray) (hn : n.size ≤ 1000000000) (t : List UInt8) (hl : l.length ≤ 1000000000) :
    ∃ w2, (Instr.mapUpdate 59 (.map (some b)) (.string n) (svS t)).run Tryz.prog w = .ok () w2 ∧ Seen w2 b (put n.data.toList t l) ∧ Ch (fun k => k = b) w w2 := by
  obtain ⟨w2, hr, ho, hgr⟩ := h.map.update (string_keyed Tryz.underlying9) Tryz.underlying59 (by unfold maxLen; omega) (D4.keyS n hn) (rdS_sv t)
  refine ⟨w2, hr, ⟨D4.put_asc h.asc, ?_⟩, Ch.of_grown hgr fun k hk => by cases hk; rfl⟩
  rw [datT_put h.asc] at ho
  obtain ⟨es, clock, hb, F, hs, hD⟩ := ho
  have hsz : es.size ≤ (put n.data.toList t l).length ∨ True := .inr trivial
  have e : Maps.size (datT (put n.data.toList t l)) = (put n.data.toList t l).length := datT_size _
  rw [← e]
  rw [hD]
  exact ⟨es, clock, hb, F, by rw [Maps.size_eq, length_read]; exact Nat.le_refl _, rfl⟩
theorem Seen.made (w : World) : Seen (w.alloc (.map #[] 0)) w.heap.size [] := ⟨List.Pairwise.nil, World.ownsMap_made w Tryz.prog 9 rdS⟩
theorem noClash_snoc {K : List (List UInt8)} {t : List UInt8} (h : NoClash K) (ht : ∀ s ∈ K, sha s = sha t → s = t) : NoClash (K ++ [t]) := fun s hs u hu e => by
  rcases List.mem_append.1 hs with hs | hs <;> rcases List.mem_append.1 hu with hu | hu
  · exact h s hs u hu e
  · rw [List.mem_singleton.1 hu] at e ⊢; exact ht s hs e
  · rw [List.mem_singleton.1 hs] at e ⊢; exact (ht u hu e.symm).symm
  · rw [List.mem_singleton.1 hs, List.mem_singleton.1 hu]
/-- The texts of acts. -/
def texts (xs : List Xa) : List (List UInt8) := xs.map (·.ac.text)
theorem texts_take {xs : List Xa} {i : Nat} (h : i < xs.length) : texts (xs.take (i + 1)) = texts (xs.take i) ++ [xs[i].ac.text] := by
  unfold texts; rw [List.take_succ_eq_append_getElem h, List.map_append]; rfl
theorem mkT_len (K : List (List UInt8)) : (mkT K).length ≤ K.length := by
  refine snoc_ind (P := fun K => (mkT K).length ≤ K.length) (Nat.le_refl _) (fun K t ih => ?_) K
  rw [mkT_snoc]
  have := put_len (sha t) t (mkT K)
  simp only [List.length_append, List.length_singleton]; omega
set_option maxRecDepth 100000 in
set_option maxHeartbeats 4000000 in
theorem clash_any {w : World} {a : Option Addr} {c : Nat} {xs : List Xa} (hR : RdA w a xs) (hF : Fine xs) (hC : ¬ NoClash (texts xs)) :
    Calls Tryz.prog 8 #[.slice a xs.length c] w fun e w' => e = .returned (.bool true) ∧ Below w.heap.size w w' := by
  have hl' : (xs.length : Int) ≤ 40 := by have := hF.1; omega
  have HR := Lib.hid (And.intro hR (And.intro hF hC))
  have hmm := @run_makeMap Tryz.prog
  have H0 := Lib.hid (Seen.made w)
  clear hR hF hC
  go_enter Tryz.func8, Tryz.ntmps8
  go_wp2
  go_loopw [5, 6, 7, 8, 12] (fun _ _ _ _ i wr => ∃ ii : Nat, i = .int .i64 (ii : Int) ∧ ii ≤ xs.length ∧ Hid (NoClash (texts (xs.take ii)) ∧ Seen wr w.heap.size (mkT (texts (xs.take ii))) ∧ Below w.heap.size w wr)) (fun _ _ _ _ i _ => xs.length - (intOf i).toNat)
  case atStart => exact ⟨0, rfl, Nat.zero_le _, Lib.hid ⟨fun s hs => by simp [texts] at hs, H0.out, (Below.refl _ _).alloc (Nat.le_refl _) _⟩⟩
  case round =>
    obtain ⟨ii, rfl, hi, HI⟩ := hrel
    by_cases hlt : ii < xs.length
    · have hlt' : (ii : Int) < (xs.length : Int) := by omega
      have hi0 : (0 : Int) ≤ (ii : Int) := by omega
      obtain ⟨⟨b, off, rfl, k0, k1, k2, k3, k4⟩, -, -, -⟩ := (HR.out.1.keep HI.out.2.2) ii hlt
      have hmem := List.getElem_mem hlt
      have hxl := (HR.out.2.1.2 _ hmem).1
      have HTT := Lib.hid (texts_take hlt)
      generalize xs[ii] = x at *
      obtain ⟨⟨what, n, text, picks, raw⟩, ka, kc⟩ := x
      simp only at k0 k1 k2 k3 k4 hxl HTT
      clear hmem
      have P22 := Lib.hid (rprint_txt text (by omega))
      have hml := mkT_len (texts (xs.take ii))
      have hml2 : (texts (xs.take ii)).length ≤ 40 := by unfold texts; rw [List.length_map, List.length_take]; have := HR.out.2.1.1; omega
      have hrow : ∀ V, Below (wr.alloc (.cells #[.int .i64 what, .int .i64 n, .string (txt text), .slice ka picks.length kc, .bool raw] 51)).heap.size (wr.alloc (.cells #[.int .i64 what, .int .i64 n, .string (txt text), .slice ka picks.length kc, .bool raw] 51)) V → V.cell? ⟨wr.heap.size, 2, none⟩ = some (.string (txt text)) := fun V hV => cell_of_row _ _ 2 _ _ _ ((hV.block _ (by simp)).trans (heap_alloc_new wr _))
      have hB0 : Below w.heap.size w (wr.alloc (.cells #[.int .i64 what, .int .i64 n, .string (txt text), .slice ka picks.length kc, .bool raw] 51)) := HI.out.2.2.alloc HI.out.2.2.size _
      have HS : Hid (∀ V, Below (wr.alloc (.cells #[.int .i64 what, .int .i64 n, .string (txt text), .slice ka picks.length kc, .bool raw] 51)).heap.size (wr.alloc (.cells #[.int .i64 what, .int .i64 n, .string (txt text), .slice ka picks.length kc, .bool raw] 51)) V → Seen V w.heap.size (mkT (texts (xs.take ii)))) := Lib.hid fun V hV => (HI.out.2.1.new ((Below.refl _ _).alloc (Nat.le_refl _) _)).new hV
      have HRW := Lib.hid hrow
      clear hrow
      have hlk := mkT_look HI.out.1 (sha text) (texts (xs.take ii)) (fun x hx => hx)
      cases hg : D4.look (sha text) (mkT (texts (xs.take ii))) with
      | none =>
        have HLK : Hid (∀ V, Below (wr.alloc (.cells #[.int .i64 what, .int .i64 n, .string (txt text), .slice ka picks.length kc, .bool raw] 51)).heap.size (wr.alloc (.cells #[.int .i64 what, .int .i64 n, .string (txt text), .slice ka picks.length kc, .bool raw] 51)) V → (Instr.lookup 59 (.map (some w.heap.size)) (.string (txt (sha text))) true).run Tryz.prog V = .ok (.tuple #[.string (txt []), .bool false]) V ∧ ∃ V2, (Instr.mapUpdate 59 (.map (some w.heap.size)) (.string (txt (sha text))) (.string (txt text))).run Tryz.prog V = .ok () V2 ∧ Seen V2 w.heap.size (mkT (texts (xs.take ii) ++ [text])) ∧ Ch (fun k => k = w.heap.size) V V2) := Lib.hid fun V hV => by
          have h1 := HS.out V hV
          refine ⟨?_, ?_⟩
          · have h2 := h1.look (txt (sha text)) (by rw [txt_size, sha_len]; omega)
            rw [data_txt, hg] at h2
            exact h2
          · obtain ⟨V2, h2, h3, h4⟩ := h1.update (txt (sha text)) (by rw [txt_size, sha_len]; omega) text (by omega)
            rw [data_txt] at h3
            exact ⟨V2, h2, by rw [mkT_snoc]; exact h3, h4⟩
        have HNC : Hid (NoClash (texts (xs.take ii) ++ [text])) := Lib.hid (noClash_snoc HI.out.1 fun s hs e => by rw [(hlk s).2 ⟨hs, e⟩] at hg; cases hg)
        clear hg hlk hml hml2 HS
        generalize txt (sha text) = ts at *
        generalize txt [] = te at *
        generalize txt text = tt at *
        have HB0 := Lib.hid hB0
        clear hB0
        go_wp2_with (go_at_call 22; (with_reducible refine (P22.out _).mono ?_); rintro e w3 ⟨rfl, hb3⟩; have kt := HRW.out _ hb3; obtain ⟨hlook, V2, hup, hS2, hc2⟩ := HLK.out _ hb3)
        go_roundw
        case rel =>
          refine ⟨ii + 1, by go_num, by omega, Lib.hid ⟨by rw [HTT.out]; exact HNC.out, by rw [HTT.out]; exact hS2, ?_⟩⟩
          have hB3 := HB0.out.trans (hb3.mono HB0.out.size)
          exact hB3.trans (hc2.below hB3.size fun k hk e => by omega)
        case measure => simp [intOf]; omega
      | some u =>
        have hu2 := (hlk u).1 hg
        have HLK : Hid (∀ V, Below (wr.alloc (.cells #[.int .i64 what, .int .i64 n, .string (txt text), .slice ka picks.length kc, .bool raw] 51)).heap.size (wr.alloc (.cells #[.int .i64 what, .int .i64 n, .string (txt text), .slice ka picks.length kc, .bool raw] 51)) V → (Instr.lookup 59 (.map (some w.heap.size)) (.string (txt (sha text))) true).run Tryz.prog V = .ok (.tuple #[.string (txt u), .bool true]) V ∧ ∃ V2, (Instr.mapUpdate 59 (.map (some w.heap.size)) (.string (txt (sha text))) (.string (txt text))).run Tryz.prog V = .ok () V2 ∧ Seen V2 w.heap.size (mkT (texts (xs.take ii) ++ [text])) ∧ Ch (fun k => k = w.heap.size) V V2) := Lib.hid fun V hV => by
          have h1 := HS.out V hV
          refine ⟨?_, ?_⟩
          · have h2 := h1.look (txt (sha text)) (by rw [txt_size, sha_len]; omega)
            rw [data_txt, hg] at h2
            exact h2
          · obtain ⟨V2, h2, h3, h4⟩ := h1.update (txt (sha text)) (by rw [txt_size, sha_len]; omega) text (by omega)
            rw [data_txt] at h3
            exact ⟨V2, h2, by rw [mkT_snoc]; exact h3, h4⟩
        by_cases hut : u = text
        · have HNC : Hid (NoClash (texts (xs.take ii) ++ [text])) := Lib.hid (noClash_snoc HI.out.1 fun s hs e => by
            have := HI.out.1 s hs u hu2.1 (e.trans (by rw [hut]))
            rw [this, hut])
          rw [hut] at HLK
          clear hg hlk hml hml2 HS hu2 hut
          generalize txt (sha text) = ts at *
          generalize txt text = tt at *
          have HB0 := Lib.hid hB0
          clear hB0
          go_wp2_with (go_at_call 22; (with_reducible refine (P22.out _).mono ?_); rintro e w3 ⟨rfl, hb3⟩; have kt := HRW.out _ hb3; obtain ⟨hlook, V2, hup, hS2, hc2⟩ := HLK.out _ hb3)
          go_roundw
          case rel =>
            refine ⟨ii + 1, by go_num, by omega, Lib.hid ⟨by rw [HTT.out]; exact HNC.out, by rw [HTT.out]; exact hS2, ?_⟩⟩
            have hB3 := HB0.out.trans (hb3.mono HB0.out.size)
            exact hB3.trans (hc2.below hB3.size fun k hk e => by omega)
          case measure => simp [intOf]; omega
        · have hne : ((txt u).toList == (txt text).toList) = false := by rw [F5.txt_eq]; exact decide_eq_false hut
          have hne2 : ¬ txt u = txt text := fun e => hut (F5.txt_inj e)
          clear hg hlk hml hml2 HS hu2 hut
          generalize txt (sha text) = ts at *
          generalize txt u = tu at *
          generalize txt text = tt at *
          have HB0 := Lib.hid hB0
          clear hB0
          go_wp2_with (go_at_call 22; (with_reducible refine (P22.out _).mono ?_); rintro e w3 ⟨rfl, hb3⟩; have kt := HRW.out _ hb3; obtain ⟨hlook, V2, hup, hS2, hc2⟩ := HLK.out _ hb3)
          go_ret
          exact ⟨rfl, HB0.out.trans (hb3.mono HB0.out.size)⟩
    · exfalso
      have e : ii = xs.length := by omega
      have := HI.out.1
      rw [e, List.take_length] at this
      exact HR.out.2.2 this
end Go.Proofs.YtogihpofkjpokaaGreatDoor
namespace Go.Proofs.YtogihpofkjpokaaGreatDoor
open Go Go.RowKit Go.Maps
open D4 (put Asc Lg Dk dp More RdI)
open F5 (txt txt_size data_txt RdT OwT)

/-- Both of the document's stores, in blocks of their own; their lists, and what else is kept, in blocks of Q. -/
structure DI (w W : World) (bw bm : Nat) (s m : DS) (Q : Nat → Prop) : Prop where
  dw : DAt W bw s
  dm : DAt W bm m
  iw : s.In W Q
  im : m.In W Q
  nw : ¬ Q bw
  nm : ¬ Q bm
  ne : bw ≠ bm
  b1 : w.heap.size ≤ bw
  b2 : w.heap.size ≤ bm
  qlt : ∀ k, Q k → k < W.heap.size
  below : Below w.heap.size w W
  pos : 0 < w.heap.size
/-- The program's blocks. -/
def GQ (w : World) (bw bm : Nat) (Q : Nat → Prop) (k : Nat) : Prop := w.heap.size ≤ k ∧ k ≠ bw ∧ k ≠ bm ∧ ¬ Q k
def Hold (Q : Nat → Prop) (W V : World) : Prop := ∀ k, Q k → V.heap[k]? = W.heap[k]?
theorem GQ.no0 {w : World} {bw bm : Nat} {Q : Nat → Prop} (h : 0 < w.heap.size) : ¬ GQ w bw bm Q 0 := fun e => by have := e.1; omega
section
variable {w W V : World} {bw bm : Nat} {s m s' m' : DS} {Q : Nat → Prop}
theorem DI.cl (h : DI w W bw bm s m Q) (k : Nat) (hk : W.heap.size ≤ k) : GQ w bw bm Q k :=
  ⟨Nat.le_trans h.below.size hk, fun e => by have := h.dw.lt; omega, fun e => by have := h.dm.lt; omega, fun e => by have := h.qlt k e; omega⟩
/-- A step of the program. -/
theorem DI.prog (h : DI w W bw bm s m Q) (hc : Ch (GQ w bw bm Q) W V) : DI w V bw bm s m Q where
  dw := h.dw.keep hc fun e => e.2.1 rfl
  dm := h.dm.keep hc fun e => e.2.2.1 rfl
  iw := h.iw.keep hc fun k hk e => e.2.2.2 hk
  im := h.im.keep hc fun k hk e => e.2.2.2 hk
  nw := h.nw
  nm := h.nm
  ne := h.ne
  b1 := h.b1
  b2 := h.b2
  qlt := fun k hk => Nat.lt_of_lt_of_le (h.qlt k hk) hc.size
  below := h.below.trans (hc.below h.below.size fun k hk e => by have := e.1; omega)
  pos := h.pos
theorem DI.hold (h : DI w W bw bm s m Q) (hc : Ch (GQ w bw bm Q) W V) : Hold Q W V := fun k hk => hc.block k (h.qlt k hk) fun e => e.2.2.2 hk
/-- A step of the law. -/
theorem DI.law (h : DI w W bw bm s m Q) (hc : Ch (fun k => k = bw ∨ k = bm) W V) (hw : DAt V bw s') (hm : DAt V bm m') (iw : s'.In V (More Q W V)) (im : m'.In V (More Q W V)) : DI w V bw bm s' m' (More Q W V) where
  dw := hw
  dm := hm
  iw := iw
  im := im
  nw := More.not h.nw h.dw.lt
  nm := More.not h.nm h.dm.lt
  ne := h.ne
  b1 := h.b1
  b2 := h.b2
  qlt := fun k hk => hk.elim (fun e => Nat.lt_of_lt_of_le (h.qlt k e) hc.size) fun e => e.2
  below := h.below.trans (hc.below h.below.size fun k hk e => by have := h.b1; have := h.b2; omega)
  pos := h.pos
theorem DI.lawHold (h : DI w W bw bm s m Q) (hc : Ch (fun k => k = bw ∨ k = bm) W V) : Hold Q W V := fun k hk => hc.block k (h.qlt k hk) fun e => e.elim (fun e => h.nw (e ▸ hk)) fun e => h.nm (e ▸ hk)
theorem DI.new (h : DI w W bw bm s m Q) (hb : Below W.heap.size W V) : DI w V bw bm s m (More Q W V) := by
  have hc : Ch (fun k => k = bw ∨ k = bm) W V := Ch.of_new hb
  exact h.law hc (h.dw.new hb) (h.dm.new hb) ((h.iw.new hb).mono fun k _ => .inl) ((h.im.new hb).mono fun k _ => .inl)
/-- The same, and nothing else is kept of what is new. -/
theorem DI.newQ (h : DI w W bw bm s m Q) (hb : Below W.heap.size W V) : DI w V bw bm s m Q := h.prog (Ch.of_new hb)
/-- The program's store, behind a step of the law. -/
theorem DI.str (h : DI w W bw bm s m Q) {sb d : Nat} {a : Ab} {l : Lg} (hS : Str W sb d a l (GQ w bw bm Q)) (hc : Ch (fun k => k = bw ∨ k = bm) W V) : Str V sb d a l (GQ w bw bm (More Q W V)) := by
  have h0 : ¬ GQ w bw bm (More Q W V) 0 := fun e => hS.g0 ⟨e.1, e.2.1, e.2.2.1, fun q => e.2.2.2 (.inl q)⟩
  have h1 : ¬ (0 = bw ∨ 0 = bm) := fun e => by have := h.b1; have := h.b2; have := h.pos; omega
  exact (hS.low.keep hc (fun k hk e => e.elim hk.1.2.1 hk.1.2.2.1) h1).mono (fun k hk hG => ⟨hG.1.1, hG.1.2.1, hG.1.2.2.1, fun q => q.elim hG.1.2.2.2 fun e => by omega⟩) h0
theorem DAt.hold {b : Nat} {t : DS} (h : DAt W b t) (hh : Hold Q W V) (hq : Q b) : DAt V b t := (hh b hq).trans h
/-- One of the document's stores set anew, cell by cell. -/
theorem store3 {b : Nat} {t t' : DS} (h : DAt W b t) (x y z : Value) (he : t'.cells = #[x, y, z]) : DAt (((W.setCell ⟨b, 0, none⟩ x).setCell ⟨b, 1, none⟩ y).setCell ⟨b, 2, none⟩ z) b t' := by
  have q0 := heap_setCell_same W b 0 t.cells 49 x h
  have q1 := heap_setCell_same _ b 1 _ 49 y q0
  have q2 := heap_setCell_same _ b 2 _ 49 z q1
  unfold DAt
  rw [he]
  exact q2
theorem ch3 (W : World) (b : Nat) (x y z : Value) : Ch (fun k => k = b) W (((W.setCell ⟨b, 0, none⟩ x).setCell ⟨b, 1, none⟩ y).setCell ⟨b, 2, none⟩ z) :=
  ((Ch.setCell (S := fun k => k = b) _ _ _ fun _ => rfl).tr (Ch.setCell (S := fun k => k = b) _ _ _ fun _ => rfl)).tr (Ch.setCell (S := fun k => k = b) _ _ _ fun _ => rfl)
end
/-! what holds of the texts -/
/-- The document's lists hold texts of acts, each once; so many at most. -/
structure LI (T : List (List UInt8)) (n : Nat) (s m : DS) : Prop where
  nodup : (s.K ++ s.N).Nodup
  mnod : m.K.Nodup
  inT : ∀ x ∈ s.K ++ s.N, x ∈ T
  minT : ∀ x ∈ m.K ++ m.N, x ∈ T
  cnt : s.K.length + s.N.length ≤ n
  mcnt : m.K.length + m.N.length ≤ n
theorem LI.mono {T : List (List UInt8)} {n n' : Nat} {s m : DS} (h : LI T n s m) (hn : n ≤ n') : LI T n' s m := ⟨h.nodup, h.mnod, h.inT, h.minT, Nat.le_trans h.cnt hn, Nat.le_trans h.mcnt hn⟩
/-- How the program's store stands to the document's: up; or down, in a call that would have led to 'maybe'. -/
def Md (T : List (List UInt8)) (l : Lg) (a : Ab) (B N : Nat) (s m : DS) : Prop :=
  (Up l a B N ∧ (NoClash T → Link T a s.K s.N s.R)) ∨ (∃ R K, Dn l a R K B N ∧ (NoClash T → a.kept = mkT s.K ∧ a.root = s.R ∧ K = mkT m.K ∧ R = m.R))
section
variable {T : List (List UInt8)} {l : Lg} {a : Ab} {B N : Nat} {s m : DS}
theorem Md.up (h : Md T l a B N s m) (hd : a.down = false) : Up l a B N ∧ (NoClash T → Link T a s.K s.N s.R) := by
  rcases h with h | ⟨R, K, ⟨lg, sp, h⟩, _⟩
  · exact h
  · rw [h.ad] at hd; cases hd
theorem Md.dn (h : Md T l a B N s m) (hd : a.down = true) : ∃ R K, Dn l a R K B N ∧ (NoClash T → a.kept = mkT s.K ∧ a.root = s.R ∧ K = mkT m.K ∧ R = m.R) := by
  rcases h with ⟨h, _⟩ | h
  · rw [h.down.2.1] at hd; cases hd
  · exact h
/-- The document's store and the program's say the same, where no two texts clash. -/
theorem Link.same (h : Link T a s.K s.N s.R) (hT : NoClash T) : SameP a s.K s.N s.R := ⟨h.prints hT, h.root, fun _ ht => h.get hT ht⟩
/-- .. and whatever says the same as the program's is beside it. -/
theorem same_link {K1 K2 : List (List UInt8)} {R1 R2 : List UInt8} (hT : NoClash T) (h : Link T a K1 [] R1) (hs : SameP a K2 [] R2) (hn : K2.Nodup) (hi : ∀ x ∈ K2, x ∈ T) : Link T a K2 [] R2 := by
  have hi1 : ∀ x ∈ K1, x ∈ T := h.inK
  have hf : a.fresh = [] := h.fresh
  have h21 : ∀ t ∈ K2, t ∈ K1 := fun t ht => by
    have h1 := hs.get t (by rw [List.append_nil]; exact ht)
    unfold Ab.get at h1
    rw [h.kept, hf] at h1
    have h2 : D4.look (sha t) (mkT K1) = some t := by
      cases hl : D4.look (sha t) (mkT K1) with
      | none => rw [hl] at h1; simp [D4.look] at h1
      | some u => rw [hl] at h1; simpa using h1
    exact ((mkT_look hT (sha t) K1 hi1 t).1 h2).1
  have h12 : ∀ t ∈ K1, t ∈ K2 := fun t ht => by
    have h1 := (mkT_look hT (sha t) K1 hi1 t).2 ⟨ht, rfl⟩
    have h2 := D4.look_mem h1
    have h3 : sha t ∈ (mkT K2).map (·.1) := by
      rw [mkT_keys hT K2 hi hn, ← hs.prints, h.kept]
      exact List.mem_map.2 ⟨_, h2, rfl⟩
    obtain ⟨q, hq, he⟩ := List.mem_map.1 h3
    have h4 := D4.look_of_mem (mkT_asc K2) (show (q.1, q.2) ∈ mkT K2 from hq)
    have h5 := (mkT_look hT q.1 K2 hi q.2).1 h4
    have h6 := hT q.2 (hi _ h5.1) t (hi1 t ht) (h5.2.trans he)
    rw [← h6]; exact h5.1
  have hk : mkT K1 = mkT K2 := by
    refine D4.asc_ext (mkT_asc _) (mkT_asc _) fun n => ?_
    cases h1 : D4.look n (mkT K1) with
    | some t =>
      have h2 := (mkT_look hT n K1 hi1 t).1 h1
      exact ((mkT_look hT n K2 hi t).2 ⟨h12 t h2.1, h2.2⟩).symm
    | none =>
      cases h2 : D4.look n (mkT K2) with
      | none => rfl
      | some t =>
        have h3 := (mkT_look hT n K2 hi t).1 h2
        rw [(mkT_look hT n K1 hi1 t).2 ⟨h21 t h3.1, h3.2⟩] at h1
        cases h1
  exact ⟨by rw [h.kept, hk], by rw [hf]; rfl, hs.root, by rw [List.append_nil]; exact hn, by rw [List.append_nil]; exact hi⟩
end
end Go.Proofs.YtogihpofkjpokaaGreatDoor
namespace Go.Proofs.YtogihpofkjpokaaGreatDoor
open Go Go.RowKit Go.Maps
open D4 (put Asc Lg Dk dp More RdI)
open F5 (txt txt_size data_txt RdT OwT)

/-- What holds ahead of each act. -/
structure RR (w wr : World) (T : List (List UInt8)) (bw bm sb d : Nat) (a : Ab) (l : Lg) (s m : DS) (Q : Nat → Prop) (B n : Nat) (rm : Int) : Prop where
  di : DI w wr bw bm s m Q
  str : Str wr sb d a l (GQ w bw bm Q)
  li : LI T n s m
  md : Md T l a B n s m
  room : l.room = rm
section
variable {w W V : World} {T : List (List UInt8)} {bw bm sb d : Nat} {a : Ab} {l : Lg} {s m : DS} {Q : Nat → Prop} {B n : Nat} {rm : Int}
theorem Md.mono {B' n' : Nat} (h : Md T l a B n s m) (hB : B ≤ B') (hn : n ≤ n') : Md T l a B' n' s m := by
  rcases h with ⟨h, k⟩ | ⟨R, K, h, k⟩
  · exact .inl ⟨h.mono hB hn, k⟩
  · exact .inr ⟨R, K, h.mono hB hn, k⟩
theorem RR.new (h : RR w W T bw bm sb d a l s m Q B n rm) (hb : Below W.heap.size W V) : RR w V T bw bm sb d a l s m Q B n rm := ⟨h.di.newQ hb, h.str.new hb, h.li, h.md, h.room⟩
theorem RR.mono {B' n' : Nat} (h : RR w W T bw bm sb d a l s m Q B n rm) (hB : B ≤ B') (hn : n ≤ n') : RR w W T bw bm sb d a l s m Q B' n' rm := ⟨h.di, h.str, h.li.mono hn, h.md.mono hB hn, h.room⟩
theorem Dn.len {R : List UInt8} {K : Tx} (h : Dn l a R K B n) : l.fs.length ≤ 2 ∧ a.down = true ∧ KeyOK a.kept ∧ a.root.length ≤ 1000 ∧ a.kept.length ≤ n := by
  obtain ⟨lg, sp, h⟩ := h
  exact ⟨h.dk.len, h.ad, h.kkey, h.root, by have := h.cnt; omega⟩
theorem Md.few (h : Md T l a B n s m) (hn : n ≤ 1000) (hB : B ≤ 1000000) : a.kept.length ≤ n ∧ KeyOK a.kept ∧ a.root.length ≤ 1000 ∧ l.fs.length ≤ 2 := by
  rcases h with ⟨h, -⟩ | ⟨R, K, h, -⟩
  · obtain ⟨-, -, -, -, h1, h2, h3, -⟩ := h.fits hn hB
    exact ⟨h3, h1, h2, h.down.2.2⟩
  · obtain ⟨h1, -, h2, h3, h4⟩ := h.len
    exact ⟨h4, h2, h3, h1⟩
theorem down_call (h : Str W sb d a l (GQ w bw bm Q)) : Calls Tryz.prog 20 #[.pointer (some ⟨sb, 0, none⟩)] W fun e w' => e = .returned (.bool a.down) ∧ w' = W := sdown_any h
theorem same_call (hD : DI w W bw bm s m Q) (hS : Str W sb d a l (GQ w bw bm Q)) (hL : LI T n s m) (hT : ∀ x ∈ T, x.length ≤ 500) (hn : n ≤ 100) (hk : a.kept.length ≤ 1000) (q : Bool) (hq : q = true ↔ SameP a s.K s.N s.R) :
    Calls Tryz.prog 28 #[.pointer (some ⟨sb, 0, none⟩), .agg #[.slice s.ka s.K.length s.kc, .string (txt s.R), .slice s.na s.N.length s.nc]] W fun e w' => e = .returned (.bool q) ∧ Below W.heap.size W w' := by
  refine (lsame_any hS hk hD.iw (by have := hL.cnt; omega) (by have := hL.cnt; omega) (fun x hx => by have := hT x (hL.inT x hx); omega)).mono ?_
  rintro e w' ⟨b, rfl, hb, hw⟩
  have : b = q := by
    cases b <;> cases q <;> simp_all
  rw [this]
  exact ⟨rfl, hw⟩
/-- Put, of a store that is up. -/
theorem put_call (hD : DI w W bw bm s m Q) (hS : Str W sb d a l (GQ w bw bm Q)) (hU : Up l a B n) (hn : n ≤ 1000) (t : List UInt8) (ht : t.length ≤ 1000) :
    Calls Tryz.prog 11 #[.pointer (some ⟨sb, 0, none⟩), .string (txt t)] W fun e w' => e = .returned (.tuple #[.string (txt (sha t)), .int .i64 0]) ∧ Str w' sb d (a.putF t) l (GQ w bw bm Q) ∧ DI w w' bw bm s m Q ∧ Hold Q W w' := by
  refine (putC hS hD.cl hU hn t ht).mono ?_
  rintro e w' ⟨rfl, h, hc⟩
  exact ⟨rfl, h, hD.prog hc, hD.hold hc⟩
/-- The document's Put. -/
theorem rput_call (hD : DI w W bw bm s m Q) (hS : Str W sb d a l (GQ w bw bm Q)) (hL : LI T n s m) (hn : n ≤ 1000) (t : List UInt8) :
    Calls Tryz.prog 21 #[.pointer (some ⟨bw, 0, none⟩), .string (txt t)] W fun e w' => e = .returned (.tuple #[]) ∧ ∃ s', DI w w' bw bm s' m (More Q W w') ∧ Str w' sb d a l (GQ w bw bm (More Q W w')) ∧ s'.K = s.K ∧ s'.R = s.R ∧ s'.N = putN s.K s.N t ∧ Hold Q W w' := by
  refine (rput_any hD.dw hD.iw hD.nw (by have := hL.cnt; omega) (by have := hL.cnt; omega) t).mono ?_
  rintro e w' ⟨rfl, s', h1, h2, h3, h4, h5, hc⟩
  have hc' : Ch (fun k => k = bw ∨ k = bm) W w' := hc.mono fun _ _ e => .inl e
  have hm : DAt w' bm m := hD.dm.keep hc fun e => hD.ne e.symm
  have hi : s'.In w' (More Q W w') := h2.mono fun k hk e => e.imp id fun e => ⟨e, hk⟩
  exact ⟨rfl, s', hD.law hc' h1 hm hi ((hD.im.keep hc fun k hk e => hD.nw (e ▸ hk)).mono fun k _ => .inl), hD.str hS hc', h3, h4, h5, hD.lawHold hc'⟩
theorem same_callE {K N : List (List UInt8)} {R : List UInt8} (q : Bool) (hq : q = true ↔ SameP a K N R) (hD : DI w W bw bm s m Q) (hS : Str W sb d a l (GQ w bw bm Q)) (hL : LI T n s m) (hT : ∀ x ∈ T, x.length ≤ 500) (hn : n ≤ 100) (hk : a.kept.length ≤ 1000) (eK : s.K = K) (eN : s.N = N) (eR : s.R = R) :
    Calls Tryz.prog 28 #[.pointer (some ⟨sb, 0, none⟩), .agg #[.slice s.ka s.K.length s.kc, .string (txt s.R), .slice s.na s.N.length s.nc]] W fun e w' => e = .returned (.bool q) ∧ Below W.heap.size W w' :=
  same_call hD hS hL hT hn hk q (by rw [eK, eN, eR]; exact hq)
theorem LI.put {s2 : DS} (h : LI T n s m) {t : List UInt8} (ht : t ∈ T) (eK : s2.K = s.K) (eN : s2.N = putN s.K s.N t) : LI T (n + 1) s2 m := by
  have hmem : ∀ x ∈ s.K ++ putN s.K s.N t, x ∈ T := fun x hx => by
    unfold putN at hx
    split at hx
    · exact h.inT x hx
    · rcases List.mem_append.1 hx with hx | hx
      · exact h.inT x (List.mem_append.2 (.inl hx))
      · rcases List.mem_append.1 hx with hx | hx
        · exact h.inT x (List.mem_append.2 (.inr hx))
        · rw [List.mem_singleton.1 hx]; exact ht
  refine ⟨?_, h.mnod, by rw [eK, eN]; exact hmem, h.minT, ?_, Nat.le_succ_of_le h.mcnt⟩
  · rw [eK, eN]
    unfold putN
    split
    · exact h.nodup
    · rename_i hn
      rw [← List.append_assoc, List.nodup_append]
      refine ⟨h.nodup, by simp, fun x hx y hy => ?_⟩
      rw [List.mem_singleton.1 hy]
      rintro rfl
      exact hn (List.mem_append.1 hx)
  · rw [eK, eN]
    unfold putN
    have := h.cnt
    split
    · omega
    · rw [List.length_append, List.length_singleton]; omega
theorem putF_down (a : Ab) (t : List UInt8) : (a.putF t).down = a.down := by unfold Ab.putF; split <;> rfl
theorem Md.put (h : Md T l a B n s m) (hd : a.down = false) {t : List UInt8} (ht : t ∈ T) (hl : t.length ≤ 1000) {s2 : DS} (eK : s2.K = s.K) (eR : s2.R = s.R) (eN : s2.N = putN s.K s.N t) : Md T l (a.putF t) (B + (13 + t.length)) (n + 1) s2 m := by
  obtain ⟨hU, hL⟩ := h.up hd
  refine .inl ⟨hU.put t hl, fun hT => ?_⟩
  rw [eK, eR, eN]
  exact (hL hT).put hT ht
theorem hold_row {b : Nat} {o : Obj} (h : W.heap[b]? = some o) (hh : Hold Q W V) (hq : Q b) : V.heap[b]? = some o := (hh b hq).trans h
/-- Nothing new. -/
def DS.nil (s : DS) : DS := ⟨s.ka, s.kc, s.K, s.R, none, 0, []⟩
theorem DS.In.nil (h : s.In W Q) : s.nil.In W Q := ⟨h.k, fun i hi => absurd hi (by simp [DS.nil]), h.kn, fun _ => rfl, h.kq, fun ad e => (by cases e)⟩
theorem LI.nil (h : LI T n s m) : LI T n s.nil m := ⟨by show (s.K ++ []).Nodup; rw [List.append_nil]; exact (List.nodup_append.1 h.nodup).1, h.mnod, fun x hx => h.inT x (by have hx : x ∈ s.K ++ [] := hx; rw [List.append_nil] at hx; exact List.mem_append.2 (.inl hx)), h.minT, by show s.K.length + 0 ≤ n; have := h.cnt; omega, h.mcnt⟩
theorem DI.keepIn (hD : DI w W bw bm s m Q) {t : DS} (h : t.In W Q) (hc : Ch (fun k => k = bw ∨ k = bm) W V) : t.In V (More Q W V) := (h.keep hc fun _ hk e => e.elim (fun e => hD.nw (e ▸ hk)) fun e => hD.nm (e ▸ hk)).mono fun _ _ => .inl
/-- What is new, taken away from the document's store. -/
theorem nil_step (hD : DI w W bw bm s m Q) (hS : Str W sb d a l (GQ w bw bm Q)) : DI w (W.setCell ⟨bw, 2, none⟩ (.slice none 0 0)) bw bm s.nil m (More Q W (W.setCell ⟨bw, 2, none⟩ (.slice none 0 0))) ∧ Str (W.setCell ⟨bw, 2, none⟩ (.slice none 0 0)) sb d a l (GQ w bw bm (More Q W (W.setCell ⟨bw, 2, none⟩ (.slice none 0 0)))) := by
  have hc : Ch (fun k => k = bw) W (W.setCell ⟨bw, 2, none⟩ (.slice none 0 0)) := Ch.setCell _ _ _ fun _ => rfl
  have hc' : Ch (fun k => k = bw ∨ k = bm) W (W.setCell ⟨bw, 2, none⟩ (.slice none 0 0)) := hc.mono fun _ _ e => .inl e
  exact ⟨hD.law hc' (hD.dw.upd 2 _ rfl) (hD.dm.keep hc fun e => hD.ne e.symm) (((hD.iw.nil).keep hc fun k hk e => hD.nw (e ▸ hk)).mono fun k _ => .inl) ((hD.im.keep hc fun k hk e => hD.nw (e ▸ hk)).mono fun k _ => .inl), hD.str hS hc'⟩
/-- Drop. -/
theorem drop_call (hD : DI w W bw bm s m Q) (hS : Str W sb d a l (GQ w bw bm Q)) :
    Calls Tryz.prog 24 #[.pointer (some ⟨sb, 0, none⟩)] W fun e w' => e = .returned (.tuple #[]) ∧ Str w' sb d a.drop l (GQ w bw bm Q) ∧ DI w w' bw bm s m Q := by
  refine (drop_any hS).mono ?_
  rintro e w' ⟨rfl, h, hc⟩
  exact ⟨rfl, h, hD.prog hc⟩
theorem Md.drop (h : Md T l a B n s m) : Md T l a.drop B n s.nil m := by
  rcases h with ⟨h, k⟩ | ⟨R, K, h, k⟩
  · exact .inl ⟨h.drop, fun hT => (k hT).drop⟩
  · exact .inr ⟨R, K, h.drop, k⟩
/-- Fuel. -/
theorem fuel_call (hD : DI w W bw bm s m Q) (hS : Str W sb d a l (GQ w bw bm Q)) (f : Int) (hf : -9223372036854775808 ≤ f ∧ f ≤ 9223372036854775807) :
    Calls Tryz.prog 27 #[.pointer (some ⟨d, 0, none⟩), .int .i64 f] W fun e w' => e = .returned (.tuple #[]) ∧ Str w' sb d a { l with lim := decide (0 ≤ f), fuel := f } (GQ w bw bm Q) ∧ DI w w' bw bm s m Q := by
  refine (fuelC hS f hf).mono ?_
  rintro e w' ⟨rfl, h, hc⟩
  exact ⟨rfl, h.cl hD.cl (GQ.no0 hD.pos), hD.prog hc⟩
theorem Md.fuel (h : Md T l a B n s m) (f : Int) : Md T { l with lim := decide (0 ≤ f), fuel := f } a B n s m := by
  rcases h with ⟨h, k⟩ | ⟨R, K, h, k⟩
  · exact .inl ⟨h.disk rfl rfl, k⟩
  · exact .inr ⟨R, K, h.disk rfl rfl, k⟩
/-- The document's Commit, laid in a block of its own. -/
theorem rcommit_call (hD : DI w W bw bm s m Q) (hS : Str W sb d a l (GQ w bw bm Q)) (hL : LI T n s m) (hn : n ≤ 1000) (r : List UInt8) :
    Calls Tryz.prog 23 #[.agg #[.slice s.ka s.K.length s.kc, .string (txt s.R), .slice s.na s.N.length s.nc], .string (txt r)] W fun e w' => ∃ a2 c2, e = .returned (.agg #[.slice a2 (s.K ++ s.N).length c2, .string (txt r), .slice none 0 0]) ∧
      ∃ V nx Q2, V = w'.alloc (.cells #[.slice a2 (s.K ++ s.N).length c2, .string (txt r), .slice none 0 0] 49) ∧ nx = (⟨a2, c2, s.K ++ s.N, r, none, 0, []⟩ : DS) ∧ DI w V bw bm s m Q2 ∧ Str V sb d a l (GQ w bw bm Q2) ∧ DAt V w'.heap.size nx ∧ nx.In V Q2 ∧ Q2 w'.heap.size ∧ Hold Q W V ∧ (∀ k, Q k → Q2 k) := by
  refine (rcommit_any (Q := Q) hD.iw (by have := hL.cnt; omega) (by have := hL.cnt; omega) r).mono ?_
  rintro e w' ⟨a2, c2, rfl, hs, hb⟩
  have hb2 : Below W.heap.size W (w'.alloc (.cells #[.slice a2 (s.K ++ s.N).length c2, .string (txt r), .slice none 0 0] 49)) := hb.alloc hb.size _
  have hs2 := hs.frame ((Below.refl w'.heap.size w').alloc (Nat.le_refl _) (.cells #[.slice a2 (s.K ++ s.N).length c2, .string (txt r), .slice none 0 0] 49))
  exact ⟨a2, c2, rfl, _, _, _, rfl, rfl, hD.new hb2, hD.str hS (Ch.of_new hb2), heap_alloc_new w' _, ⟨hs2.rd, fun i hi => absurd hi (by simp), hs2.nil, fun _ => rfl, fun ad e => ⟨.inr (hs2.new ad e), (hs2.new ad e).2⟩, fun ad e => (by cases e)⟩, .inr ⟨hb.size, by simp⟩, hD.lawHold (Ch.of_new hb2), fun k hk => .inl hk⟩
/-- Commit. -/
theorem commit_call (hD : DI w W bw bm s m Q) (hS : Str W sb d a l (GQ w bw bm Q)) (hU : Up l a B n) (hn : n ≤ 1000) (hB : B ≤ 1000000) (r : List UInt8) (hr : r.length ≤ 1000) :
    Calls Tryz.prog 12 #[.pointer (some ⟨sb, 0, none⟩), .string (txt r)] W fun e w' => e = .returned (.int .i64 (a.comC l r)) ∧ Str w' sb d (a.comA l r) (a.comL l r) (GQ w bw bm Q) ∧ DI w w' bw bm s m Q ∧ Ch (GQ w bw bm Q) W w' := by
  refine (commitC hS hD.cl hU hn hB r hr).mono ?_
  rintro e w' ⟨rfl, h, hc⟩
  exact ⟨rfl, h, hD.prog hc, hc⟩
theorem commit_calld (hD : DI w W bw bm s m Q) (hS : Str W sb d a l (GQ w bw bm Q)) (hd : a.down = true) (r : List UInt8) (hr : r.length ≤ 1000) :
    Calls Tryz.prog 12 #[.pointer (some ⟨sb, 0, none⟩), .string (txt r)] W fun e w' => e = .returned (.int .i64 3) ∧ Str w' sb d a.drop l (GQ w bw bm Q) ∧ DI w w' bw bm s m Q := by
  refine (commit_down hS hd r hr).mono ?_
  rintro e w' ⟨rfl, h, hc⟩
  exact ⟨rfl, h, hD.prog hc⟩
/-- 'w, maybe = next, next'. -/
theorem both_step {nx : DS} (hD : DI w W bw bm s m Q) (hS : Str W sb d a l (GQ w bw bm Q)) (hi : nx.In W Q) (x y z : Value) (he : nx.cells = #[x, y, z]) {V : World} (hV : V = (((((W.setCell ⟨bw, 0, none⟩ x).setCell ⟨bw, 1, none⟩ y).setCell ⟨bw, 2, none⟩ z).setCell ⟨bm, 0, none⟩ x).setCell ⟨bm, 1, none⟩ y).setCell ⟨bm, 2, none⟩ z ∨ V = (((((W.setCell ⟨bm, 0, none⟩ x).setCell ⟨bm, 1, none⟩ y).setCell ⟨bm, 2, none⟩ z).setCell ⟨bw, 0, none⟩ x).setCell ⟨bw, 1, none⟩ y).setCell ⟨bw, 2, none⟩ z) :
    ∃ Q2, DI w V bw bm nx nx Q2 ∧ Str V sb d a l (GQ w bw bm Q2) := by
  rcases hV with rfl | rfl
  · have c1 := ch3 W bw x y z
    have d1 := store3 hD.dw x y z he
    have m1 := hD.dm.keep c1 fun e => hD.ne e.symm
    have c2 := ch3 (((W.setCell ⟨bw, 0, none⟩ x).setCell ⟨bw, 1, none⟩ y).setCell ⟨bw, 2, none⟩ z) bm x y z
    have d2 := store3 m1 x y z he
    have w2 := d1.keep c2 hD.ne
    have hc : Ch (fun k => k = bw ∨ k = bm) W _ := (c1.mono fun _ _ e => .inl e).tr (c2.mono fun _ _ e => .inr e)
    have hi2 := hD.keepIn hi hc
    exact ⟨_, hD.law hc w2 d2 hi2 hi2, hD.str hS hc⟩
  · have c1 := ch3 W bm x y z
    have d1 := store3 hD.dm x y z he
    have m1 := hD.dw.keep c1 hD.ne
    have c2 := ch3 (((W.setCell ⟨bm, 0, none⟩ x).setCell ⟨bm, 1, none⟩ y).setCell ⟨bm, 2, none⟩ z) bw x y z
    have d2 := store3 m1 x y z he
    have w2 := d1.keep c2 fun e => hD.ne e.symm
    have hc : Ch (fun k => k = bw ∨ k = bm) W _ := (c1.mono fun _ _ e => .inr e).tr (c2.mono fun _ _ e => .inl e)
    have hi2 := hD.keepIn hi hc
    exact ⟨_, hD.law hc d2 w2 hi2 hi2, hD.str hS hc⟩
/-- 'maybe = next'. -/
theorem maybe_step {nx : DS} (hD : DI w W bw bm s m Q) (hS : Str W sb d a l (GQ w bw bm Q)) (hi : nx.In W Q) (x y z : Value) (he : nx.cells = #[x, y, z]) :
    ∃ Q2, DI w (((W.setCell ⟨bm, 0, none⟩ x).setCell ⟨bm, 1, none⟩ y).setCell ⟨bm, 2, none⟩ z) bw bm s nx Q2 ∧ Str (((W.setCell ⟨bm, 0, none⟩ x).setCell ⟨bm, 1, none⟩ y).setCell ⟨bm, 2, none⟩ z) sb d a l (GQ w bw bm Q2) := by
  have c1 := ch3 W bm x y z
  have hc : Ch (fun k => k = bw ∨ k = bm) W _ := c1.mono fun _ _ e => .inr e
  exact ⟨_, hD.law hc (hD.dw.keep c1 hD.ne) (store3 hD.dm x y z he) (hD.keepIn hD.iw hc) (hD.keepIn hi hc), hD.str hS hc⟩
/-- 'w = maybe'. -/
theorem main_step {nx : DS} (hD : DI w W bw bm s m Q) (hS : Str W sb d a l (GQ w bw bm Q)) (hi : nx.In W Q) (x y z : Value) (he : nx.cells = #[x, y, z]) :
    ∃ Q2, DI w (((W.setCell ⟨bw, 0, none⟩ x).setCell ⟨bw, 1, none⟩ y).setCell ⟨bw, 2, none⟩ z) bw bm nx m Q2 ∧ Str (((W.setCell ⟨bw, 0, none⟩ x).setCell ⟨bw, 1, none⟩ y).setCell ⟨bw, 2, none⟩ z) sb d a l (GQ w bw bm Q2) := by
  have c1 := ch3 W bw x y z
  have hc : Ch (fun k => k = bw ∨ k = bm) W _ := c1.mono fun _ _ e => .inl e
  exact ⟨_, hD.law hc (store3 hD.dw x y z he) (hD.dm.keep c1 fun e => hD.ne e.symm) (hD.keepIn hi hc) (hD.keepIn hD.im hc), hD.str hS hc⟩
theorem LI.done {nx : DS} (h : LI T n s m) (eK : nx.K = s.K ++ s.N) (eN : nx.N = []) : LI T n nx nx ∧ LI T n s.nil nx := by
  have h1 : ∀ x ∈ nx.K ++ nx.N, x ∈ T := fun x hx => by rw [eN, List.append_nil, eK] at hx; exact h.inT x hx
  have h2 : nx.K.length + nx.N.length ≤ n := by rw [eK, eN, List.length_append]; have := h.cnt; simp; omega
  exact ⟨⟨by rw [eN, List.append_nil, eK]; exact h.nodup, by rw [eK]; exact h.nodup, h1, h1, h2, h2⟩, ⟨h.nil.nodup, by rw [eK]; exact h.nodup, h.nil.inT, h1, h.nil.cnt, h2⟩⟩
theorem Md.commit (h : Md T l a B n s m) (hd : a.down = false) (r : List UInt8) (hr : r.length ≤ 1000) (hroom : (3 * (B + (13 + r.length) : Nat) + 1000 : Int) ≤ l.room) {nx : DS} (eK : nx.K = s.K ++ s.N) (eN : nx.N = []) (eR : nx.R = r) :
    (a.comL l r).room = l.room ∧ ((a.comC l r = 0 ∧ a.comA l r = a.done r ∧ (a.done r).down = false ∧ Md T (a.comL l r) (a.done r) (B + (13 + r.length)) n nx nx ∧ (a.done r).kept.length ≤ n ∧ (NoClash T → SameP (a.done r) (s.K ++ s.N) [] r)) ∨ (a.comC l r = 3 ∧ a.comA l r = a.drop.out ∧ Md T (a.comL l r) a.drop.out (B + (13 + r.length)) n s.nil nx)) := by
  obtain ⟨hU, hL⟩ := h.up hd
  obtain ⟨h1, ⟨e, h2⟩ | ⟨e, h2⟩ | ⟨e, h2, h3⟩⟩ := hU.commit r hr
  · refine ⟨h1, .inl ⟨e, by unfold Ab.comA; rw [if_pos e], h2.down.2.1, .inl ⟨h2, fun hT => by rw [eK, eN, eR]; exact (hL hT).done hT r⟩, ?_, fun hT => ?_⟩⟩
    · obtain ⟨lg, sp, h2⟩ := h2
      have := h2.cnt; omega
    · have h4 := (hL hT).done hT r
      exact ⟨h4.prints hT, h4.root, fun t ht => h4.get hT ht⟩
  · refine ⟨h1, .inr ⟨e, by unfold Ab.comA; rw [if_neg (by rw [e]; decide), if_pos e], .inr ⟨r, _, h2, fun hT => ⟨(hL hT).kept, (hL hT).root, ?_, eR.symm⟩⟩⟩⟩
    rw [eK, (hL hT).kept, (hL hT).fresh]
    exact mkT_app hT (hL hT).inK (hL hT).inN
  · omega
end
end Go.Proofs.YtogihpofkjpokaaGreatDoor
namespace Go.Proofs.YtogihpofkjpokaaGreatDoor
open Go Go.RowKit Go.Maps
open D4 (put Asc Lg Dk dp More RdI)
open F5 (txt txt_size data_txt RdT OwT)

/-- What rests is of what was kept, each once, whatever clashes. -/
theorem colOne_ok {K0 : List (List UInt8)} {p : List UInt8} : ∀ (K l : List (List UInt8)), (∀ x ∈ K, x ∈ K0) → (∀ x ∈ l, x ∈ K0) → l.Nodup → (∀ x ∈ colOne K p l, x ∈ K0) ∧ (colOne K p l).Nodup
  | [], l, _, hl, hd => ⟨hl, hd⟩
  | x :: K, l, hK, hl, hd => by
    have e : colOne (x :: K) p l = colOne K p (if sha x = p ∧ x ∉ l then l ++ [x] else l) := rfl
    rw [e]
    have hK' : ∀ y ∈ K, y ∈ K0 := fun y hy => hK y (List.mem_cons_of_mem _ hy)
    by_cases h : sha x = p ∧ x ∉ l
    · rw [if_pos h]
      refine colOne_ok K (l ++ [x]) hK' (fun y hy => ?_) ?_
      · rcases List.mem_append.1 hy with hy | hy
        · exact hl y hy
        · rw [List.mem_singleton.1 hy]; exact hK x List.mem_cons_self
      · rw [List.nodup_append]
        refine ⟨hd, by simp, fun y hy z hz => ?_⟩
        rw [List.mem_singleton.1 hz]
        rintro rfl
        exact h.2 hy
    · rw [if_neg h]
      exact colOne_ok K l hK' hl hd
theorem rcol_ok {K : List (List UInt8)} : ∀ (ps l l' : List (List UInt8)), (∀ x ∈ l, x ∈ K) → l.Nodup → ps.foldl (rcolStep K) (some l) = some l' → (∀ x ∈ l', x ∈ K) ∧ l'.Nodup
  | [], l, l', hl, hd, e => by cases e; exact ⟨hl, hd⟩
  | p :: ps, l, l', hl, hd, e => by
    rw [List.foldl_cons] at e
    by_cases hx : ∃ t ∈ K, sha t = p
    · rw [show rcolStep K (some l) p = some (colOne K p l) from if_pos hx] at e
      obtain ⟨h1, h2⟩ := colOne_ok (p := p) K l (fun _ => id) hl hd
      exact rcol_ok ps _ l' h1 h2 e
    · rw [show rcolStep K (some l) p = none from if_neg hx, rcol_none] at e
      cases e
theorem nodup_sub_length {α : Type} [DecidableEq α] : ∀ (l K : List α), l.Nodup → (∀ x ∈ l, x ∈ K) → l.length ≤ K.length
  | [], _, _, _ => Nat.zero_le _
  | x :: l, K, hd, hs => by
    have h1 := List.nodup_cons.1 hd
    have hx := hs x List.mem_cons_self
    have h2 := nodup_sub_length l (K.erase x) h1.2 fun y hy => (List.mem_erase_of_ne (by rintro rfl; exact h1.1 hy)).2 (hs y (List.mem_cons_of_mem _ hy))
    have h3 := List.length_erase_of_mem hx
    have h4 := List.length_pos_of_mem hx
    rw [List.length_cons]
    omega
section
variable {w W V : World} {T : List (List UInt8)} {bw bm sb d : Nat} {a : Ab} {l : Lg} {s m : DS} {Q : Nat → Prop} {B n : Nat}
/-- What the document's Collect leaves. -/
theorem LI.rest {nx : DS} (h : LI T n s m) (ps : List (List UInt8)) (eK : nx.K = (rcol s.K ps).getD s.K) (eN : nx.N = s.N) : LI T n nx nx ∧ LI T n s nx := by
  have hd := List.nodup_append.1 h.nodup
  obtain ⟨h1, h2⟩ : (∀ x ∈ nx.K, x ∈ s.K) ∧ nx.K.Nodup := by
    rw [eK]
    cases e : rcol s.K ps with
    | none => exact ⟨fun _ => id, hd.1⟩
    | some K' => exact rcol_ok ps [] K' (by simp) (by simp) e
  have h3 := nodup_sub_length _ _ h2 h1
  have h4 : ∀ x ∈ nx.K ++ nx.N, x ∈ T := fun x hx => by
    rcases List.mem_append.1 hx with hx | hx
    · exact h.inT x (List.mem_append.2 (.inl (h1 x hx)))
    · rw [eN] at hx; exact h.inT x (List.mem_append.2 (.inr hx))
  have h5 : (nx.K ++ nx.N).Nodup := by
    rw [List.nodup_append, eN]
    exact ⟨h2, hd.2.1, fun x hx y hy => hd.2.2 x (h1 x hx) y hy⟩
  have h6 : nx.K.length + nx.N.length ≤ n := by rw [eN]; have := h.cnt; omega
  exact ⟨⟨h5, h2, h4, h4, h6, h6⟩, ⟨h.nodup, h2, h.inT, h4, h.cnt, h6⟩⟩
/-- The store's fingerprints. -/
theorem prints_call (hS : Str W sb d a l (GQ w bw bm Q)) (hl : a.kept.length ≤ 1000) : Calls Tryz.prog 13 #[.pointer (some ⟨sb, 0, none⟩)] W fun e w' => ∃ v c, e = .returned (.slice v (a.kept.map (·.1)).length c) ∧ RdT w' v (a.kept.map (·.1)) ∧ Below W.heap.size W w' := by
  rw [List.length_map]
  exact printsC hS hl
/-- The document's Collect, laid in a block of its own. -/
theorem rcollect_call (hD : DI w W bw bm s m Q) (hS : Str W sb d a l (GQ w bw bm Q)) (hL : LI T n s m) (hT : ∀ x ∈ T, x.length ≤ 500) (hn : n ≤ 100) (pa : Option Addr) (pc : Nat) (ps : List (List UInt8)) (hR : RdT W pa ps) (hps : ps.length ≤ 100) :
    Calls Tryz.prog 26 #[.agg #[.slice s.ka s.K.length s.kc, .string (txt s.R), .slice s.na s.N.length s.nc], .slice pa ps.length pc] W fun e w' => ∃ nx : DS, e = .returned (.tuple #[.agg #[.slice nx.ka nx.K.length nx.kc, .string (txt nx.R), .slice nx.na nx.N.length nx.nc], .bool (rcol s.K ps).isSome]) ∧
      nx.K = (rcol s.K ps).getD s.K ∧ nx.R = s.R ∧ nx.N = s.N ∧ RdT (w'.alloc (.cells #[.slice nx.ka nx.K.length nx.kc, .string (txt nx.R), .slice nx.na nx.N.length nx.nc] 49)) pa ps ∧
      ∃ V Q2, V = w'.alloc (.cells #[.slice nx.ka nx.K.length nx.kc, .string (txt nx.R), .slice nx.na nx.N.length nx.nc] 49) ∧ DI w V bw bm s m Q2 ∧ Str V sb d a l (GQ w bw bm Q2) ∧ DAt V w'.heap.size nx ∧ nx.In V Q2 ∧ Q2 w'.heap.size ∧ Hold Q W V ∧ (∀ k, Q k → Q2 k) := by
  refine (rcollect_any hD.iw (by have := hL.cnt; omega) (fun x hx => by have := hT x (hL.inT x (List.mem_append.2 (.inl hx))); omega) pa pc ps hR hps).mono ?_
  rintro e w' ⟨nx, rfl, eK, eR, eN, hI, hb⟩
  have hb1 : Below w'.heap.size w' (w'.alloc (.cells nx.cells 49)) := (Below.refl _ _).alloc (Nat.le_refl _) _
  have hb2 : Below W.heap.size W (w'.alloc (.cells nx.cells 49)) := hb.alloc hb.size _
  have hI2 := hI.new hb1
  refine ⟨nx, rfl, eK, eR, eN, hR.new hb2, _, _, rfl, hD.new hb2, hD.str hS (Ch.of_new hb2), heap_alloc_new w' _, hI2.mono (fun k hk hq => ?_), .inr ⟨hb.size, by simp⟩, hD.lawHold (Ch.of_new hb2), fun k hk => .inl hk⟩
  exact hq.imp id fun e => ⟨e, hk⟩
/-- Collect of a store that is up. -/
theorem collect_call (hD : DI w W bw bm s m Q) (hS : Str W sb d a l (GQ w bw bm Q)) (hU : Up l a B n) (hn : n ≤ 1000) (hB : B ≤ 1000000) (av : Option Addr) (c : Nat) (ps : List (List UInt8)) (hR : RdT W av ps) (hp : ∀ p ∈ ps, p.length ≤ 1000) (hl : ps.length ≤ 1000) :
    Calls Tryz.prog 17 #[.pointer (some ⟨sb, 0, none⟩), .slice av ps.length c] W fun e w' => ((restOf a.kept ps = none → e = .returned (.int .i64 6) ∧ Str w' sb d a l (GQ w bw bm Q)) ∧ ∀ rest, restOf a.kept ps = some rest → e = .returned (.int .i64 (a.colC l rest)) ∧ Str w' sb d (a.colA l rest) (a.colL l rest) (GQ w bw bm Q)) ∧ DI w w' bw bm s m Q ∧ Ch (GQ w bw bm Q) W w' := by
  obtain ⟨_, _, _, _, h3, h4, h5, _⟩ := hU.fits hn hB
  obtain ⟨_, hd, hl2⟩ := hU.down
  refine (collect_any hS hd av c ps hR hp hl h3 h4 (by omega)).mono ?_
  rintro e w' ⟨hP, hc⟩
  have h0 := hS.g0
  exact ⟨⟨fun h => ⟨(hP.1 h).1, (hP.1 h).2.cl hD.cl h0⟩, fun rest h => ⟨(hP.2 rest h).1, (hP.2 rest h).2.cl hD.cl h0⟩⟩, hD.prog hc, hc⟩
/-- .. and of one that is down. -/
theorem collect_calld (hD : DI w W bw bm s m Q) (hS : Str W sb d a l (GQ w bw bm Q)) (hM : Md T l a B n s m) (hd : a.down = true) (hn : n ≤ 1000) (hB : B ≤ 1000000) (av : Option Addr) (c : Nat) (ps : List (List UInt8)) (hR : RdT W av ps) (hp : ∀ p ∈ ps, p.length ≤ 1000) (hl : ps.length ≤ 1000) :
    Calls Tryz.prog 17 #[.pointer (some ⟨sb, 0, none⟩), .slice av ps.length c] W fun e w' => e = .returned (.int .i64 (if (restOf a.kept ps).isSome then 3 else 6)) ∧ Str w' sb d a l (GQ w bw bm Q) ∧ DI w w' bw bm s m Q := by
  obtain ⟨_, h1, h2, h3⟩ := hM.few hn hB
  refine (collect_down hS hd av c ps hR hp hl h1 h2 (by omega)).mono ?_
  rintro e w' ⟨⟨hP1, hP2, hP3⟩, hc⟩
  refine ⟨?_, hP3.cl hD.cl hS.g0, hD.prog hc⟩
  cases h : restOf a.kept ps with
  | none => exact hP1 h
  | some rest => exact hP2 rest h
theorem Md.restd (h : Md T l a B n s m) (hd : a.down = true) (hL : LI T n s m) (ps : List (List UInt8)) (hT : NoClash T) : (restOf a.kept ps).isSome = (rcol s.K ps).isSome := by
  obtain ⟨R, K, _, h2⟩ := h.dn hd
  have h3 := (h2 hT).1
  have h4 := List.nodup_append.1 hL.nodup
  have h5 : restOf a.kept ps = (rcol s.K ps).map mkT := by
    rw [h3]
    exact (col_link hT (fun x hx => hL.inT x (List.mem_append.2 (.inl hx))) h4.1 ps [] (by simp) (by simp)).1
  rw [h5, Option.isSome_map]
/-- What Collect leads to, of a store that is up. -/
theorem Md.collect (h : Md T l a B n s m) (hd : a.down = false) (ps : List (List UInt8)) (hroom : (3 * (B : Nat) + 1000 : Int) ≤ l.room) :
    (restOf a.kept ps = none ∧ (NoClash T → rcol s.K ps = none)) ∨ ∃ rest, restOf a.kept ps = some rest ∧ (NoClash T → rcol s.K ps ≠ none) ∧ (a.colL l rest).room = l.room ∧
      ((a.colC l rest = 0 ∧ a.colA l rest = a.less rest ∧ (a.less rest).down = false ∧ (a.less rest).kept.length ≤ n ∧ (∀ nx : DS, nx.K = (rcol s.K ps).getD s.K → nx.R = s.R → nx.N = s.N → Md T (a.colL l rest) (a.less rest) B n nx nx) ∧ (NoClash T → SameP (a.less rest) ((rcol s.K ps).getD s.K) s.N s.R)) ∨
       (a.colC l rest = 3 ∧ a.colA l rest = a.out ∧ ∀ nx : DS, nx.K = (rcol s.K ps).getD s.K → nx.R = s.R → nx.N = s.N → Md T (a.colL l rest) a.out B n s nx)) := by
  obtain ⟨hU, hL⟩ := h.up hd
  cases e : restOf a.kept ps with
  | none =>
    refine .inl ⟨rfl, fun hT => ?_⟩
    have h1 := (hL hT).rest hT ps
    rw [e] at h1
    cases h2 : rcol s.K ps with
    | none => rfl
    | some K' => rw [h2] at h1; cases h1
  | some rest =>
    have hlk : ∀ hT : NoClash T, ∃ K', rcol s.K ps = some K' ∧ rest = mkT K' := fun hT => by
      have h1 := (hL hT).rest hT ps
      rw [e] at h1
      cases h2 : rcol s.K ps with
      | none => rw [h2] at h1; cases h1
      | some K' => rw [h2] at h1; exact ⟨K', rfl, Option.some.inj h1⟩
    obtain ⟨hasc, hsub, _⟩ := restOf_ok e
    obtain ⟨h1, h2⟩ := hU.collect hasc hsub
    refine .inr ⟨rest, rfl, fun hT => ?_, h1, ?_⟩
    · obtain ⟨K', h3, _⟩ := hlk hT
      rw [h3]; exact fun h => by cases h
    rcases h2 with ⟨h2, h3⟩ | ⟨h2, h3⟩ | ⟨_, _, h3⟩
    · refine .inl ⟨h2, by unfold Ab.colA; rw [if_pos h2], h3.down.2.1, ?_, fun nx eK eR eN => .inl ⟨h3, fun hT => ?_⟩, fun hT => ?_⟩
      · obtain ⟨lg, sp, h3⟩ := h3
        have := h3.cnt; omega
      · obtain ⟨K', h4, h5⟩ := hlk hT
        rw [eK, eR, eN, h4, h5]
        exact (hL hT).less hT h4
      · obtain ⟨K', h4, h5⟩ := hlk hT
        rw [h4, h5]
        exact ((hL hT).less hT h4).same (s := ⟨none, 0, K', s.R, none, 0, s.N⟩) hT
    · refine .inr ⟨h2, by unfold Ab.colA; rw [if_neg (by rw [h2]; decide), if_pos h2], fun nx eK eR eN => .inr ⟨a.root, rest, h3, fun hT => ?_⟩⟩
      obtain ⟨K', h4, h5⟩ := hlk hT
      refine ⟨(hL hT).kept, (hL hT).root, ?_, ?_⟩
      · rw [eK, h4, h5]; rfl
      · rw [eR]; exact (hL hT).root
    · omega
end
end Go.Proofs.YtogihpofkjpokaaGreatDoor
namespace Go.Proofs.YtogihpofkjpokaaGreatDoor
open Go Go.RowKit Go.Maps
open D4 (put Asc Lg Dk dp More RdI)
open F5 (txt txt_size data_txt RdT OwT)

section
variable {w W V : World} {T : List (List UInt8)} {bw bm sb d : Nat} {a : Ab} {l : Lg} {s m : DS} {Q : Nat → Prop} {B n : Nat}
theorem UpS.disk {lg sp : Option (List UInt8 × Nat)} {l' : Lg} (h : UpS l lg sp a B n) (e : l'.fs = l.fs) (hd : l'.down = l.down) : UpS l' lg sp a B n :=
  ⟨h.dk.ext e, hd.trans h.down, h.ad, h.sure, h.spl, h.log, h.size, h.pre, h.bl, h.bs, h.live, h.cnt, h.key, h.asc⟩
/-- What is there behind a fall: what the document's store says, or what a call that was broken off would have left. -/
theorem Md.fall (h : Md T l a B n s m) (hL : LI T n s m) (keep : List Int) (f : Int) : ∃ lg sp r t R' K', LogAt (dat lg) R' K' r t ∧ UpS { (l.fall keep) with lim := decide (0 ≤ f), fuel := f } lg sp (opened lg r t R' K') B n ∧
    (NoClash T → Link T (opened lg r t R' K') s.K [] s.R ∨ Link T (opened lg r t R' K') m.K [] m.R) := by
  have hs : (s.K ++ []).Nodup := by rw [List.append_nil]; exact (List.nodup_append.1 hL.nodup).1
  have hsT : ∀ x ∈ s.K ++ [], x ∈ T := fun x hx => by rw [List.append_nil] at hx; exact hL.inT x (List.mem_append.2 (.inl hx))
  have hm : (m.K ++ []).Nodup := by rw [List.append_nil]; exact hL.mnod
  have hmT : ∀ x ∈ m.K ++ [], x ∈ T := fun x hx => by rw [List.append_nil] at hx; exact hL.minT x (List.mem_append.2 (.inl hx))
  rcases h with ⟨h, k⟩ | ⟨R, K, h, k⟩
  · obtain ⟨lg, sp, r, t, h1, h2⟩ := h.reopen keep
    exact ⟨lg, sp, r, t, _, _, h1, h2.disk rfl rfl, fun hT => .inl ⟨(k hT).kept, rfl, (k hT).root, hs, hsT⟩⟩
  · obtain ⟨lg, sp, r, t, R', K', h0, h1, h2⟩ := h.reopen keep
    refine ⟨lg, sp, r, t, R', K', h1, h2.disk rfl rfl, fun hT => ?_⟩
    obtain ⟨k1, k2, k3, k4⟩ := k hT
    rcases h0 with ⟨rfl, rfl⟩ | ⟨rfl, rfl⟩
    · exact .inl ⟨k1, rfl, k2, hs, hsT⟩
    · exact .inr ⟨k3, rfl, k4, hm, hmT⟩
/-- The fall. -/
theorem fall_call (hD : DI w W bw bm s m Q) (hS : Str W sb d a l (GQ w bw bm Q)) (hl : l.fs.length ≤ 2) (ka : Option Addr) (kc : Nat) (keep : List Int) (hR : RdI W ka keep) (hb : ∀ ad, ka = some ad → keep ≠ [] → ad.block < w.heap.size) :
    Calls Tryz.prog 15 #[.pointer (some ⟨d, 0, none⟩), .slice ka keep.length kc] W fun e w' => e = .returned (.tuple #[]) ∧ Dk w' d (l.fall keep) (GQ w bw bm Q) ∧ S1.KR w' ∧ DI w w' bw bm s m Q ∧ Ch (GQ w bw bm Q) W w' := by
  refine (fallC hS hl ka kc keep hR fun ad e hne h => by have := hb ad e hne; have := h.1.1; omega).mono ?_
  rintro e w' ⟨rfl, h1, h2, hc⟩
  exact ⟨rfl, h1, h2, hD.prog hc, hc⟩
theorem fueld_call (hD : DI w W bw bm s m Q) (hS : Dk W d l (GQ w bw bm Q)) (hK : S1.KR W) (f : Int) (hf : -9223372036854775808 ≤ f ∧ f ≤ 9223372036854775807) :
    Calls Tryz.prog 27 #[.pointer (some ⟨d, 0, none⟩), .int .i64 f] W fun e w' => e = .returned (.tuple #[]) ∧ Dk w' d { l with lim := decide (0 ≤ f), fuel := f } (GQ w bw bm Q) ∧ S1.KR w' ∧ DI w w' bw bm s m Q ∧ Ch (GQ w bw bm Q) W w' := by
  refine (fuelD hS f hf).mono ?_
  rintro e w' ⟨rfl, h1, hc⟩
  exact ⟨rfl, h1, KR_keep hK hc (GQ.no0 hD.pos), hD.prog hc, hc⟩
theorem open_call (hD : DI w W bw bm s m Q) (hS : Dk W d l (GQ w bw bm Q)) (hK : S1.KR W) {lg sp : Option (List UInt8 × Nat)} {root : List UInt8} {kept : Tx} {r : Nat} {t : Bool} (hU : UpS l lg sp (opened lg r t root kept) B n) (hL : LogAt (dat lg) root kept r t) (hB : B ≤ 40000) :
    Calls Tryz.prog 10 #[.pointer (some ⟨d, 0, none⟩)] W fun e w' => ∃ sb, e = .returned (.tuple #[.pointer (some ⟨sb, 0, none⟩), .int .i64 0]) ∧ Str w' sb d (opened lg r t root kept) l (GQ w bw bm Q) ∧ DI w w' bw bm s m Q ∧ Below W.heap.size W w' := by
  refine (openC hS hD.cl hU hL hB hK (GQ.no0 hD.pos)).mono ?_
  rintro e w' ⟨sb, rfl, h1, hb⟩
  exact ⟨sb, rfl, h1, hD.newQ hb, hb⟩
/-- Behind a fall: whichever of both the store is found to be the same as, it is. -/
theorem fall_link {K R} (hL : LI T n s m) (h : NoClash T → Link T a s.K [] s.R ∨ Link T a m.K [] m.R) (hT : NoClash T) (hs : SameP a K [] R) (hn : K.Nodup) (hi : ∀ x ∈ K, x ∈ T) : Link T a K [] R := by
  have _ := hL
  rcases h hT with h | h
  · exact same_link hT h hs hn hi
  · exact same_link hT h hs hn hi
theorem fall_false (h : NoClash T → Link T a s.K [] s.R ∨ Link T a m.K [] m.R) (h1 : ¬ SameP a s.K [] s.R) (h2 : ¬ SameP a m.K [] m.R) : ¬ NoClash T := fun hT => by
  rcases h hT with h | h
  · exact h1 (Link.same (s := ⟨none, 0, s.K, s.R, none, 0, []⟩) h hT)
  · exact h2 (Link.same (s := ⟨none, 0, m.K, m.R, none, 0, []⟩) h hT)
theorem LI.nils (h : LI T n s m) : LI T n s.nil m.nil := by
  have h1 := h.nil
  refine ⟨h1.nodup, h.mnod, h1.inT, fun x hx => ?_, h1.cnt, ?_⟩
  · have hx : x ∈ m.K ++ [] := hx
    rw [List.append_nil] at hx
    exact h.minT x (List.mem_append.2 (.inl hx))
  · show m.K.length + 0 ≤ n
    have := h.mcnt
    omega
/-- 'w.New, maybe.New = nil, nil'. -/
theorem nils_step (hD : DI w W bw bm s m Q) (hS : Str W sb d a l (GQ w bw bm Q)) : ∃ Q2, DI w ((W.setCell ⟨bw, 2, none⟩ (.slice none 0 0)).setCell ⟨bm, 2, none⟩ (.slice none 0 0)) bw bm s.nil m.nil Q2 ∧ Str ((W.setCell ⟨bw, 2, none⟩ (.slice none 0 0)).setCell ⟨bm, 2, none⟩ (.slice none 0 0)) sb d a l (GQ w bw bm Q2) := by
  obtain ⟨h1, h2⟩ := nil_step hD hS
  have hc : Ch (fun k => k = bm) (W.setCell ⟨bw, 2, none⟩ (.slice none 0 0)) ((W.setCell ⟨bw, 2, none⟩ (.slice none 0 0)).setCell ⟨bm, 2, none⟩ (.slice none 0 0)) := Ch.setCell _ _ _ fun _ => rfl
  have hc' : Ch (fun k => k = bw ∨ k = bm) (W.setCell ⟨bw, 2, none⟩ (.slice none 0 0)) ((W.setCell ⟨bw, 2, none⟩ (.slice none 0 0)).setCell ⟨bm, 2, none⟩ (.slice none 0 0)) := hc.mono fun _ _ e => .inr e
  exact ⟨_, h1.law hc' (h1.dw.keep hc h1.ne) (h1.dm.upd 2 _ rfl) ((h1.iw.keep hc fun k hk e => h1.nm (e ▸ hk)).mono fun k _ => .inl) (((h1.im.nil).keep hc fun k hk e => h1.nm (e ▸ hk)).mono fun k _ => .inl), h1.str h2 hc'⟩
/-- The law's same, of the other of the document's stores. -/
theorem same_callM (hD : DI w W bw bm s m Q) (hS : Str W sb d a l (GQ w bw bm Q)) (hL : LI T n s m) (hT : ∀ x ∈ T, x.length ≤ 500) (hn : n ≤ 100) (hk : a.kept.length ≤ 1000) (q : Bool) (hq : q = true ↔ SameP a m.K m.N m.R) :
    Calls Tryz.prog 28 #[.pointer (some ⟨sb, 0, none⟩), .agg #[.slice m.ka m.K.length m.kc, .string (txt m.R), .slice m.na m.N.length m.nc]] W fun e w' => e = .returned (.bool q) ∧ Below W.heap.size W w' := by
  refine (lsame_any hS hk hD.im (by have := hL.mcnt; omega) (by have := hL.mcnt; omega) (fun x hx => by have := hT x (hL.minT x hx); omega)).mono ?_
  rintro e w' ⟨b, rfl, hb, hw⟩
  have : b = q := by
    cases b <;> cases q <;> simp_all
  rw [this]
  exact ⟨rfl, hw⟩
end
end Go.Proofs.YtogihpofkjpokaaGreatDoor
