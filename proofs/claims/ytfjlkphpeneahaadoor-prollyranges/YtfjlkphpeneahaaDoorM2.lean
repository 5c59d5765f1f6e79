/- Numbers out of bytes; the walk of told. The walk of a node's count. Results that lie in cells: a node, a pair. The walk of itemOf: the item of a node. -/
import Derived.Test.YtfjlkphpeneahaaDoorTItem
import Derived.Test.YtfjlkphpeneahaaDoorEnds
import Derived.Test.YtfjlkphpeneahaaDoorTBase
import Derived.Laws.ResultCell
import Derived.BigRegion
namespace Go.Proofs.YtfjlkphpeneahaaDoor
open Go Go.RowKit

theorem get_of_data (s : ByteArray) (n : Nat) {b : UInt8} (h : s.data.toList[n]? = some b) : s[n]? = some b := by
  have hl : n < s.data.toList.length := (List.getElem?_eq_some_iff.1 h).1
  have h2 : n < s.size := hl
  rw [getElem?_pos s n h2]
  rw [List.getElem?_eq_getElem hl] at h
  exact h
theorem ext_txt (s : ByteArray) (a b : Nat) : s.extract a b = txt ((s.data.toList.drop a).take (b - a)) := by
  have h := Lib.extract_data s a b
  unfold txt
  rw [← h]
theorem end_txt (s : ByteArray) (a : Nat) : s.extract a s.size = txt (s.data.toList.drop a) := by
  rw [ext_txt, List.take_of_length_le]
  rw [List.length_drop]
  exact Nat.le_refl _
theorem u64_or_nat (a b : Nat) (ha : a < 18446744073709551616) (hb : b < 18446744073709551616) : bits .or .u64 (a : Int) (b : Int) = ((a ||| b : Nat) : Int) := by
  have hx : a ||| b < 2 ^ 64 := Nat.or_lt_two_pow (by omega) (by omega)
  have o1 : ∀ c : Nat, c < 18446744073709551616 → (BitVec.ofInt 64 (c : Int)).toNat = c := fun c hc => by rw [BitVec.ofInt_natCast, BitVec.toNat_ofNat]; exact Nat.mod_eq_of_lt (by omega)
  show IntKind.u64.wrap ((BitVec.ofInt 64 (a : Int) ||| BitVec.ofInt 64 (b : Int)).toNat : Int) = _
  rw [BitVec.toNat_or, o1 a ha, o1 b hb]
  exact IntWalk.u64_in _ (by omega)
theorem or_u64 (a b : Nat) (ha : a < 72057594037927936) (hb : b < 256) : bits .or .u64 ((a : Int) * 256) (b : Int) = ((a * 256 + b : Nat) : Int) := by
  rw [show (a : Int) * 256 = ((a * 256 : Nat) : Int) by omega, u64_or_nat _ _ (by omega) (by omega)]
  congr 1
  have := Nat.two_pow_add_eq_or_of_lt (i := 8) (b := b) (by omega) a
  rw [show a * 256 = 2 ^ 8 * a by omega, this]
theorem num_lt : ∀ (n : Nat) (l : Bs), l.length = n → num l < 256 ^ n := by
  intro n
  induction n with
  | zero => intro l h; rw [List.length_eq_zero_iff.1 h]; decide
  | succ n ih =>
    intro l h
    have hne : l ≠ [] := fun e => by rw [e] at h; cases h
    rw [← List.dropLast_concat_getLast hne, num_snoc]
    have h1 := ih l.dropLast (by rw [List.length_dropLast, h]; rfl)
    have h2 := (l.getLast hne).toNat_lt
    rw [Nat.pow_succ]
    omega
def toldV (x : It) : Value := if toldOk x = true then .tuple #[.string (txt (prn x)), .int .i64 (cnt x : Int), .bool true] else .tuple #[.string ⟨#[]⟩, .int .i64 0, .bool false]
theorem take_num {l : Bs} {i : Nat} (h : i < l.length) : num (l.take (i + 1)) = num (l.take i) * 256 + l[i].toNat := by
  rw [List.take_succ_eq_append_getElem h, num_snoc]
set_option maxRecDepth 100000 in
set_option maxHeartbeats 1000000 in
theorem told_any (x : It) (hx : x.2.length ≤ 1000000) (w : World) : Calls Tryd.prog 30 #[iv x] w fun e w' => e = .returned (toldV x) ∧ Below w.heap.size w w' := by
  obtain ⟨k, v⟩ := x
  have zk := txt_size k
  have zv := txt_size v
  have hv : v.length ≤ 1000000 := hx
  have hb0 : Below w.heap.size w (w.alloc (.cells #[.string (txt k), .string (txt v)] 52)) := (Below.refl _ _).alloc (Nat.le_refl _) _
  have hr0 := heap_alloc_new w (.cells #[.string (txt k), .string (txt v)] 52)
  have c1 : (w.alloc (.cells #[.string (txt k), .string (txt v)] 52)).cell? ⟨w.heap.size, 1, none⟩ = some (.string (txt v)) := cell_of_row _ _ 1 _ _ _ hr0
  clear hr0 hx
  unfold iv
  dsimp only
  by_cases h40 : v.length = 40
  · have hz40 : ((v.length : Nat) : Int) = 40 := by omega
    have H40 := Lib.hid h40
    have HV : Hid (∀ i, 32 ≤ i → (hi : i < 40) → ∃ b : UInt8, (txt v)[i]? = some b ∧ num ((v.drop 32).take (i + 1 - 32)) = num ((v.drop 32).take (i - 32)) * 256 + b.toNat ∧ num ((v.drop 32).take (i - 32)) < 72057594037927936) := Lib.hid fun i h1 hi => by
      have hl : i - 32 < (v.drop 32).length := by rw [List.length_drop]; omega
      refine ⟨(v.drop 32)[i - 32], ?_, ?_, ?_⟩
      · refine get_of_data _ _ ?_
        rw [data_txt, List.getElem_drop, ← List.getElem?_eq_getElem]
        congr 1; omega
      · rw [show i + 1 - 32 = (i - 32) + 1 by omega]; exact take_num hl
      · have := num_lt (i - 32) ((v.drop 32).take (i - 32)) (by rw [List.length_take]; omega)
        have h3 : (256 : Nat) ^ (i - 32) ≤ 256 ^ 7 := Nat.pow_le_pow_right (by omega) (by omega)
        omega
    have HN : Hid (cnt (k, v) = num ((v.drop 32).take 8)) := Lib.hid (by unfold cnt; rw [List.take_of_length_le (by rw [List.length_drop]; omega)])
    have hcut : (txt v).extract 0 32 = txt (v.take 32) := by rw [ext_txt]; rfl
    have HZ : Hid (num ((v.drop 32).take (32 - 32)) = 0) := Lib.hid rfl
    generalize txt v = V at *
    go_enter Tryd.func30, Tryd.ntmps30
    go_wp2
    go_loopw [5, 6, 11] (fun nn i _ wr => ∃ ii : Nat, i = .int .i64 (ii : Int) ∧ 32 ≤ ii ∧ ii ≤ 40 ∧ nn = .int .u64 ((num ((v.drop 32).take (ii - 32)) : Nat) : Int) ∧ wr = w.alloc (.cells #[.string (txt k), .string V] 52)) (fun _ i _ _ => 40 - (intOf i).toNat)
    case atStart => exact ⟨32, rfl, Nat.le_refl _, by omega, by rw [HZ.out]; rfl, rfl⟩
    case round =>
      obtain ⟨ii, rfl, hi1, hi2, rfl, rfl⟩ := hrel
      by_cases hlt : ii < 40
      · have hlt' : (ii : Int) < 40 := by omega
        have hi0 : (0 : Int) ≤ (ii : Int) := by omega
        obtain ⟨b, hg, hn, hs⟩ := HV.out ii hi1 hlt
        have r0 := run_index V .i64 (ii : Int) ii rfl b hg
        have HN2 := Lib.hid hn
        generalize num ((v.drop 32).take (ii - 32)) = n at *
        have ho := or_u64 n b.toNat hs b.toNat_lt
        have hb256 := b.toNat_lt
        have hsh : (n : Int) * 256 % 18446744073709551616 = (n : Int) * 256 := by omega
        clear hn hg
        go_wp2
        go_roundw
        case rel => exact ⟨ii + 1, by go_num, by omega, by omega, by rw [HN2.out]; go_num, trivial⟩
        case measure => simp [intOf]; omega
      · have hlt' : (40 : Int) ≤ (ii : Int) := by omega
        have e40 : ii = 40 := by omega
        subst e40
        have h8 : num ((v.drop 32).take (40 - 32)) = cnt (k, v) := HN.out.symm
        rw [h8]
        have hlt64 : cnt (k, v) < 18446744073709551616 := by
          have := num_lt 8 ((v.drop 32).take 8) (by rw [List.length_take, List.length_drop]; omega)
          rw [HN.out]; omega
        have HR : Hid (∀ q, toldOk (k, v) = q → toldV (k, v) = if q = true then .tuple #[.string (txt (v.take 32)), .int .i64 (cnt (k, v) : Int), .bool true] else .tuple #[.string ⟨#[]⟩, .int .i64 0, .bool false]) := Lib.hid fun q hq => by unfold toldV; rw [hq]; rfl
        have HD : Hid (toldOk (k, v) = decide (1 ≤ cnt (k, v) ∧ cnt (k, v) ≤ 1099511627776)) := Lib.hid (by unfold toldOk; exact decide_eq_decide.2 ⟨fun h => h.2, fun h => ⟨H40.out, h⟩⟩)
        generalize cnt (k, v) = n at *
        clear h8
        by_cases h1 : 1 ≤ n
        · have h1' : (1 : Int) ≤ (n : Int) := by omega
          by_cases h2 : n ≤ 1099511627776
          · have h2' : (n : Int) ≤ 1099511627776 := by omega
            have HT := Lib.hid (HR.out true (HD.out.trans (decide_eq_true ⟨h1, h2⟩)))
            clear h1 h2 hlt64
            go_wp2
            go_ret3
            exact ⟨HT.out.symm ▸ rfl, hb0⟩
          · have h2' : (1099511627776 : Int) < (n : Int) := by omega
            have HT := Lib.hid (HR.out false (HD.out.trans (decide_eq_false fun h => h2 h.2)))
            clear h1 h2
            go_wp2
            go_ret3
            exact ⟨HT.out.symm ▸ rfl, hb0⟩
        · have h1' : (n : Int) < 1 := by omega
          have HT := Lib.hid (HR.out false (HD.out.trans (decide_eq_false fun h => h1 h.1)))
          clear h1
          go_wp2
          go_ret3
          exact ⟨HT.out.symm ▸ rfl, hb0⟩
  · have hne : (((v.length : Nat) : Int) != 40) = true := by simp; omega
    have hne2 : ¬ ((v.length : Nat) : Int) = 40 := by omega
    have HT : Hid (toldV (k, v) = .tuple #[.string ⟨#[]⟩, .int .i64 0, .bool false]) := Lib.hid (by
      unfold toldV toldOk
      rw [decide_eq_false fun h => h40 h.1]
      rfl)
    clear h40
    go_enter Tryd.func30, Tryd.ntmps30
    go_wp2
    go_ret3
    exact ⟨HT.out.symm ▸ rfl, hb0⟩
end Go.Proofs.YtfjlkphpeneahaaDoor
namespace Go.Proofs.YtfjlkphpeneahaaDoor
open Go Go.RowKit

def cntB (x : It) : Nat := if toldOk x = true then cnt x else 0
/-- A node's count, as the program has it. -/
def totB (lev : Nat) (l : List It) : Nat := if lev = 0 then l.length else (l.map cntB).sum
theorem cntB_le (x : It) : cntB x ≤ 1099511627776 := by
  unfold cntB
  split
  · rename_i h; unfold toldOk at h; exact (of_decide_eq_true h).2.2
  · omega
theorem sumB_le : ∀ l : List It, (l.map cntB).sum ≤ l.length * 1099511627776
  | [] => by simp
  | x :: l => by
    have h1 := sumB_le l
    have h2 := cntB_le x
    rw [List.map_cons, List.sum_cons, List.length_cons, Nat.add_mul]
    omega
theorem sumB_take {l : List It} {i : Nat} (h : i < l.length) : ((l.take (i + 1)).map cntB).sum = ((l.take i).map cntB).sum + cntB (itD l i) := by
  rw [take_itD h, List.map_append, List.sum_append]; simp
theorem totB_right {lev : Nat} {l : List It} (h : lev = 0 ∨ l.all toldOk = true) : totB lev l = totL lev l := by
  unfold totB totL
  by_cases h0 : lev = 0
  · rw [if_pos h0, if_pos h0]
  · rw [if_neg h0, if_neg h0]
    have hl := h.resolve_left h0
    congr 1
    refine List.map_congr_left fun x hx => ?_
    unfold cntB
    rw [if_pos (List.all_eq_true.1 hl x hx)]
def nodeV (lev : Nat) (a : Option Addr) (n c : Nat) : Value := .agg #[.int .i64 (lev : Int), .slice a n c]
theorem toldV_form (x : It) : ∃ (s : ByteArray) (q : Bool), toldV x = .tuple #[.string s, .int .i64 (cntB x : Int), .bool q] := by
  unfold toldV cntB
  split
  · exact ⟨_, _, rfl⟩
  · exact ⟨_, _, rfl⟩
set_option maxRecDepth 100000 in
set_option maxHeartbeats 1000000 in
theorem count_any {w : World} (lev : Nat) {a : Option Addr} {l : List It} {c : Nat} (hR : RdP w a l) (hl : l.length ≤ 1000) (hx : ∀ x ∈ l, x.2.length ≤ 1000000) :
    Calls Tryd.prog 68 #[nodeV lev a l.length c] w fun e w' => e = .returned (.int .i64 (totB lev l : Int)) ∧ Below w.heap.size w w' := by
  have hl' : (l.length : Int) ≤ 1000 := by omega
  have hb0 : Below w.heap.size w (w.alloc (.cells #[.int .i64 (lev : Int), .slice a l.length c] 102)) := (Below.refl _ _).alloc (Nat.le_refl _) _
  have hr0 := heap_alloc_new w (.cells #[.int .i64 (lev : Int), .slice a l.length c] 102)
  have c0 : (w.alloc (.cells #[.int .i64 (lev : Int), .slice a l.length c] 102)).cell? ⟨w.heap.size, 0, none⟩ = some (.int .i64 (lev : Int)) := cell_of_row _ _ 0 _ _ _ hr0
  have c1 : (w.alloc (.cells #[.int .i64 (lev : Int), .slice a l.length c] 102)).cell? ⟨w.heap.size, 1, none⟩ = some (.slice a l.length c) := cell_of_row _ _ 1 _ _ _ hr0
  have HR := Lib.hid (And.intro (hR.new hb0) hx)
  clear hR hx hr0
  unfold nodeV
  by_cases h0 : lev = 0
  · have HT : Hid (totB lev l = l.length) := Lib.hid (by unfold totB; rw [if_pos h0])
    have ez : (lev : Int) = 0 := by omega
    rw [ez] at c0 c1 hb0 ⊢
    clear ez h0
    clear HR
    go_enter Tryd.func68, Tryd.ntmps68
    go_wp2
    go_ret
    exact ⟨by rw [HT.out]; rfl, hb0⟩
  · have hq : ((lev : Int) == 0) = false := by rw [beq_eq_false_iff_ne]; omega
    have hq2 : ¬ (lev : Int) = 0 := by omega
    have HT : Hid (totB lev l = (l.map cntB).sum) := Lib.hid (by unfold totB; rw [if_neg h0])
    clear h0
    go_enter Tryd.func68, Tryd.ntmps68
    go_wp2
    generalize w.alloc (.cells #[.int .i64 (lev : Int), .slice a l.length c] 102) = W1 at *
    clear c0 c1
    go_loopw [3, 5, 6, 7, 8, 18] (fun s _ _ _ _ i wr => ∃ ii : Nat, i = .int .i64 (ii : Int) ∧ ii ≤ l.length ∧ s = .int .i64 ((((l.take ii).map cntB).sum : Nat) : Int) ∧ Hid (Below W1.heap.size W1 wr)) (fun _ _ _ _ _ i _ => l.length - (intOf i).toNat)
    case atStart => exact ⟨0, rfl, Nat.zero_le _, rfl, Lib.hid (Below.refl _ _)⟩
    case round =>
      obtain ⟨ii, rfl, hi, rfl, HB⟩ := hrel
      by_cases hlt : ii < l.length
      · have hlt' : (ii : Int) < (l.length : Int) := by omega
        have hi0 : (0 : Int) ≤ (ii : Int) := by omega
        obtain ⟨b, off, rfl, k1, k2⟩ := (HR.out.1.new HB.out) ii hlt
        have P := Lib.hid (fun W => told_any (itD l ii) (HR.out.2 _ (itD_mem hlt)) W)
        have hst := sumB_take hlt
        have hle := sumB_le (l.take ii)
        have hle2 := cntB_le (itD l ii)
        rw [List.length_take, Nat.min_eq_left hi] at hle
        obtain ⟨s, q, hv⟩ := toldV_form (itD l ii)
        rw [hv] at P
        unfold iv at P
        generalize itD l ii = x at *
        obtain ⟨xk, xv⟩ := x
        dsimp only at k1 k2 P
        have HST := Lib.hid hst
        generalize ((l.take ii).map cntB).sum = S at *
        generalize cntB (xk, xv) = C at *
        have hSC : (S : Int) + (C : Int) ≤ 2000000000000000 := by omega
        clear hst hv hle hle2
        go_wp2_with (go_at_call 30; (with_reducible refine (P.out _).mono ?_); rintro e w2 ⟨rfl, hb2⟩)
        go_roundw
        case rel => exact ⟨ii + 1, by go_num, by omega, by rw [HST.out]; go_num, Lib.hid ((HB.out.trans (((Below.refl wr.heap.size wr).alloc (Nat.le_refl _) _).mono HB.out.size)).trans (hb2.mono (by have := HB.out.size; simp; omega)))⟩
        case measure => simp [intOf]; omega
      · have hlt' : (l.length : Int) ≤ (ii : Int) := by omega
        have e : l.take ii = l := List.take_of_length_le (by omega)
        rw [e]
        clear e
        go_wp2
        go_ret
        exact ⟨by rw [HT.out]; rfl, hb0.trans (HB.out.mono hb0.size)⟩
end Go.Proofs.YtfjlkphpeneahaaDoor
namespace Go.Proofs.YtfjlkphpeneahaaDoor
open Go Go.RowKit

theorem load_node (w : World) (g : Nat) (x y : Value) (hx : w.cell? ⟨g, 0, none⟩ = some x) (hy : w.cell? ⟨g, 1, none⟩ = some y) : (loadVar 102 ⟨g, 0, none⟩).run Tryd.prog w = .ok (.agg #[x, y]) w := by
  simp [go_sem, hx, hy]
theorem ret_node {fn : Func} {p u : Tmp} (h : fn.results = #[.cell p 102, .tmp u]) (tmps : Array Value) (w : World) (g : Nat) (x y : Value)
    (hp : tmps.getD p undef = .pointer (some ⟨g, 0, none⟩)) (hx : w.cell? ⟨g, 0, none⟩ = some x) (hy : w.cell? ⟨g, 1, none⟩ = some y) :
    (results fn tmps).run Tryd.prog w = .ok (.tuple #[.agg #[x, y], tmps.getD u undef]) w := by
  have hp' : tmps[p]?.getD undef = .pointer (some ⟨g, 0, none⟩) := by simpa using hp
  rw [results_cell_tmp h]
  simp [asAddr, hp', load_node w g x y hx hy]
end Go.Proofs.YtfjlkphpeneahaaDoor
namespace Go.Proofs.YtfjlkphpeneahaaDoor
open Go Go.RowKit
attribute [-go_sem] Builtin.append_

theorem be8_at (T i : Nat) (hi : i < 8) : (((be8 T).getD i 0).toNat : Int) = (T : Int) / 2 ^ (56 - 8 * i) % 256 := by
  have h : ((be8 T).getD i 0).toNat = T / 2 ^ (56 - 8 * i) % 256 := by
    match i, hi with
    | 0, _ => simp [be8, UInt8.toNat_ofNat']
    | 1, _ => simp [be8, UInt8.toNat_ofNat']
    | 2, _ => simp [be8, UInt8.toNat_ofNat']
    | 3, _ => simp [be8, UInt8.toNat_ofNat']
    | 4, _ => simp [be8, UInt8.toNat_ofNat']
    | 5, _ => simp [be8, UInt8.toNat_ofNat']
    | 6, _ => simp [be8, UInt8.toNat_ofNat']
    | 7, _ => simp [be8, UInt8.toNat_ofNat']
  rw [h]
  simp
theorem be8_take (T i : Nat) (hi : i < 8) : (be8 T).take (i + 1) = (be8 T).take i ++ [(be8 T).getD i 0] := by
  have h8 : i < (be8 T).length := hi
  rw [List.take_succ_eq_append_getElem h8, List.getD_eq_getElem?_getD, List.getElem?_eq_getElem h8]
  rfl
set_option maxRecDepth 100000 in
set_option maxHeartbeats 4000000 in
theorem itemOf_any {w : World} (hK : S1.KR w) (lev : Nat) {a : Option Addr} {l : List It} {c : Nat} (hR : RdP w a l) (hl : l.length ≤ 1000) (hne : l ≠ []) (hx : ∀ x ∈ l, x.2.length ≤ 1000000) (t : Bs) (ht : t.length ≤ 100000) (hT : totB lev l < 9223372036854775808) :
    Calls Tryd.prog 61 #[nodeV lev a l.length c, .string (txt t)] w fun e w' => e = .returned (iv ((itD l (l.length - 1)).1, sha t ++ be8 (totB lev l))) ∧ Below w.heap.size w w' := by
  have hlp := List.length_pos_iff.2 hne
  have hl' : (l.length : Int) ≤ 1000 := by omega
  obtain ⟨W1, hW1⟩ : ∃ W1, (w.alloc (.cells #[.int .i64 (lev : Int), .slice a l.length c] 102)).alloc (.cells #[.string ⟨#[]⟩, .string ⟨#[]⟩] 52) = W1 := ⟨_, rfl⟩
  have hb0 : Below w.heap.size w W1 := by rw [← hW1]; exact ((Below.refl _ _).alloc (Nat.le_refl _) _).alloc (by simp) _
  have hr0 : W1.heap[w.heap.size]? = some (.cells #[.int .i64 (lev : Int), .slice a l.length c] 102 (0, 0)) := by rw [← hW1]; exact (Below.heap_alloc _ _ _ (by simp)).trans (heap_alloc_new w _)
  have hr1 : W1.heap[w.heap.size + 1]? = some (.cells #[.string ⟨#[]⟩, .string ⟨#[]⟩] 52 (0, 0)) := by
    rw [← hW1]
    have := heap_alloc_new (w.alloc (.cells #[.int .i64 (lev : Int), .slice a l.length c] 102)) (.cells #[.string ⟨#[]⟩, .string ⟨#[]⟩] 52)
    rwa [show (w.alloc (.cells #[.int .i64 (lev : Int), .slice a l.length c] 102)).heap.size = w.heap.size + 1 by simp] at this
  have hsz1 : W1.heap.size = w.heap.size + 2 := by rw [← hW1]; simp
  obtain ⟨wm, hmk, hO, hbm⟩ := make_bytes W1 40 40 rfl (by omega)
  have HC : Hid (∀ V, Below (w.heap.size + 2) W1 V → (V.cell? ⟨w.heap.size, 0, none⟩ = some (.int .i64 (lev : Int)) ∧ V.cell? ⟨w.heap.size, 1, none⟩ = some (.slice a l.length c)) ∧ (V.cell? ⟨w.heap.size + 1, 0, none⟩ = some (.string ⟨#[]⟩) ∧ V.cell? ⟨w.heap.size + 1, 1, none⟩ = some (.string ⟨#[]⟩) ∧ V.frozen? ⟨w.heap.size + 1, 0, none⟩ = false ∧ V.frozen? ⟨w.heap.size + 1, 1, none⟩ = false) ∧ V.heap[w.heap.size + 1]? = some (.cells #[.string ⟨#[]⟩, .string ⟨#[]⟩] 52 (0, 0)) ∧ Below w.heap.size w V ∧ RdP V a l ∧ S1.KR V) := Lib.hid fun V hV => by
    have h1 := (hV.block w.heap.size (by omega)).trans hr0
    have h2 := (hV.block (w.heap.size + 1) (by omega)).trans hr1
    have h3 := hb0.trans (hV.mono (by omega))
    exact ⟨⟨cell_of_row _ _ 0 _ _ _ h1, cell_of_row _ _ 1 _ _ _ h1⟩, ⟨cell_of_row _ _ 0 _ _ _ h2, cell_of_row _ _ 1 _ _ _ h2, frozen_of_row _ _ _ _ _ h2, frozen_of_row _ _ _ _ _ h2⟩, h2, h3, hR.new h3, hK.step h3⟩
  have hbm1 : Below (w.heap.size + 2) W1 wm := hbm.mono (by omega)
  rw [hsz1] at hmk hO
  have P28 := Lib.hid (print_txt t ht wm (HC.out _ hbm1).2.2.2.2.2)
  have P68 : Hid (∀ V, Below (w.heap.size + 2) W1 V → Calls Tryd.prog 68 #[.agg #[.int .i64 (lev : Int), .slice a l.length c]] V fun e w' => e = .returned (.int .i64 (totB lev l : Int)) ∧ Below V.heap.size V w') := Lib.hid fun V hV => count_any lev (HC.out V hV).2.2.2.2.1 hl hx
  have HS := Lib.hid (And.intro hsz1 (And.intro hbm1 hO))
  have hT' : (totB lev l : Int) < 9223372036854775808 := by omega
  have HLK : Hid (∀ V, Below (w.heap.size + 2) W1 V → ∃ b off, a = some ⟨b, off, none⟩ ∧ V.cell? ⟨b, off + (l.length - 1) * 2, none⟩ = some (.string (txt (itD l (l.length - 1)).1))) := Lib.hid fun V hV => by
    obtain ⟨b, off, ha, h3, _⟩ := (HC.out V hV).2.2.2.2.1 (l.length - 1) (by omega)
    exact ⟨b, off, ha, h3⟩
  unfold nodeV iv
  dsimp only
  generalize (itD l (l.length - 1)).1 = lk at *
  have HTT := Lib.hid hT
  generalize totB lev l = T at *
  have hsl := sha_len t
  generalize txt t = tt at *
  generalize hsh : sha t = st at *
  clear hR hK hx hne hr0 hr1 hbm hbm1 hb0 hsz1 hO hT
  subst hW1
  go_enter Tryd.func61, Tryd.ntmps61
  go_wp2_with (first
    | (go_at_call 28; (with_reducible refine P28.out.mono ?_); rintro e w1 ⟨rfl, hb1⟩; have hO1 := HS.out.2.2.nochg hb1; have hz1 := hb1.size; have hzm := HS.out.2.1.size)
    | (at_builtin; refine wpList_btext rfl (.tmp 9) (.tmp 11) rfl (w.heap.size + 2) _ [] rfl hO1 st rfl (by simp [hsl]) (by have := HS.out.1; omega) ?_; intro v2 w2 o2 c2; have hb2 : Below (w.heap.size + 2) _ w2 := HS.out.2.1.trans ((hb1.mono (by have := HS.out.1; omega)).trans (c2.below (by have := HS.out.1; omega) fun k hk e => by have := (hO1.own k e).1; omega)); obtain ⟨⟨k0, k1⟩, -, -, -, -, -⟩ := HC.out _ hb2)
    | (go_at_call 68; (with_reducible refine (P68.out _ hb2).mono ?_); rintro e w3 ⟨rfl, hb3⟩; have hO3 := o2.nochg hb3; have hbb := hb2.trans (hb3.mono (by have := hb2.size; have := HS.out.1; omega))))
  rw [List.nil_append] at hO3
  have HI0 := Lib.hid (And.intro hO3 (And.intro hbb (hbb.size)))
  clear hO1 hz1 hzm o2 c2 hb2 k0 k1 hO3 hbb hb1 hb3 P28 P68
  go_loopw [5, 7] (fun v sh wr => ∃ ii : Nat, sh = .int .i64 (56 - 8 * (ii : Int)) ∧ ii ≤ 8 ∧ Hid (OwB wr (w.heap.size + 2) v (st ++ (be8 T).take ii) ∧ Below (w.heap.size + 2) ((w.alloc (.cells #[.int .i64 (lev : Int), .slice a l.length c] 102)).alloc (.cells #[.string ⟨#[]⟩, .string ⟨#[]⟩] 52)) wr)) (fun _ sh _ => (intOf sh + 8).toNat)
  case atStart => exact ⟨0, rfl, by omega, Lib.hid ⟨by rw [List.take_zero, List.append_nil]; exact HI0.out.1, HI0.out.2.1⟩⟩
  case round =>
    obtain ⟨ii, rfl, hi, HI⟩ := hrel
    have hwz : w.heap.size + 2 ≤ wr.heap.size := by have := HI.out.2.size; have := HS.out.1; omega
    by_cases hlt : ii < 8
    · have i1 : (0 : Int) ≤ 56 - 8 * (ii : Int) := by omega
      have i2 : (56 : Int) - 8 * (ii : Int) ≤ 64 := by omega
      have i3 : ((56 : Int) - 8 * (ii : Int)).toNat = 56 - 8 * ii := by omega
      have hb8 := be8_at T ii hlt
      have htk := be8_take T ii hlt
      obtain ⟨bb, hbb⟩ : ∃ bb, (be8 T).getD ii 0 = bb := ⟨_, rfl⟩
      rw [hbb] at hb8 htk
      obtain ⟨q, hq⟩ : ∃ q, (T : Int) / 2 ^ (56 - 8 * ii) = q := ⟨_, rfl⟩
      rw [hq] at hb8
      obtain ⟨ex, hex⟩ : ∃ ex : Nat, 56 - 8 * ii = ex := ⟨_, rfl⟩
      rw [hex] at hq i3
      obtain ⟨sh, hsh2⟩ : ∃ sh : Int, 56 - 8 * (ii : Int) = sh := ⟨_, rfl⟩
      rw [hsh2] at i1 i2 i3 ⊢
      have HSH := Lib.hid (And.intro hsh2 hex)
      have i4 : (0 : Int) ≤ sh + 8 := by omega
      have i5 : IntKind.i64.wrap (sh - 8) = sh - 8 := IntWalk.i64_in _ (by omega)
      have i6 : wrap64 (sh - 8) = sh - 8 := by unfold wrap64; omega
      have hbv : bvs [bb] = #[.int .u8 (q % 256)] := by
        unfold bvs
        simp only [List.map_cons, List.map_nil, bv, hb8]
      have hO := HI.out.1.nochg ((Below.refl wr.heap.size wr).alloc (Nat.le_refl _) (.cells #[.int .u8 (q % 256)] 5))
      have hrw : (wr.alloc (.cells #[.int .u8 (q % 256)] 5)).heap[wr.heap.size]? = some (.cells (bvs [bb]) 5 (0, 0)) := by rw [hbv]; exact heap_alloc_new wr _
      have hlen : (st ++ (be8 T).take ii).length ≤ 1000 := by rw [List.length_append, List.length_take]; omega
      have HT := Lib.hid htk
      clear htk hbv hb8 hbb hsh2 hex
      go_wp2_with (at_builtin; refine wpList_bytes rfl (.tmp 20) (.tmp 25) rfl (w.heap.size + 2) _ (st ++ (be8 T).take ii) rfl hO wr.heap.size [bb] 1 rfl rfl hrw (by omega) (by simp; omega) ?_; intro v4 w4 o4 c4)
      have hb4 : Below (w.heap.size + 2) wr w4 := (((Below.refl wr.heap.size wr).alloc (Nat.le_refl _) _).mono hwz).trans (c4.below (by simp; omega) fun k hk e => by have := (HI.out.1.own k e).1; omega)
      go_roundw
      case rel => exact ⟨ii + 1, by rw [← HSH.out.1]; congr 1; omega, by omega, Lib.hid ⟨by rw [HT.out, ← List.append_assoc]; exact o4, HI.out.2.trans hb4⟩⟩
      case measure => simp [intOf]; omega
    · have e8 : ii = 8 := by omega
      subst e8
      have hval := HI.out.1
      rw [show (be8 T).take 8 = be8 T from rfl] at hval
      have hcv := conv_txt hval
      have hcv2 := conv_txt (hval.nochg (Below.refl wr.heap.size wr).drew)
      obtain ⟨⟨k0, k1⟩, ⟨k2, k3, f2, f3⟩, hrow, hbw, -, -⟩ := HC.out _ HI.out.2
      obtain ⟨⟨kd0, kd1⟩, ⟨kd2, kd3, fd2, fd3⟩, hrowd, hbwd, -, -⟩ := HC.out _ HI.out.2.drew
      obtain ⟨b, off, ha, q0⟩ := HLK.out _ HI.out.2
      obtain ⟨b', off', ha', qd0⟩ := HLK.out _ HI.out.2.drew
      rw [ha] at ha'
      injection ha' with ha'
      injection ha' with hb' hof'
      subst hb'; subst hof'
      subst ha
      have i1 : IntKind.i64.wrap ((l.length : Int) - 1) = (l.length : Int) - 1 := IntWalk.i64_in _ (by omega)
      have i2 : (0 : Int) ≤ (l.length : Int) - 1 := by omega
      have i3 : (l.length : Int) - 1 < (l.length : Int) := by omega
      have i4 : ((l.length : Int) - 1).toNat = l.length - 1 := by omega
      have i5 : (1 : Int) ≤ (l.length : Int) := by omega
      have i6 : wrap64 ((l.length : Int) - 1) = (l.length : Int) - 1 := by unfold wrap64; omega
      have HX := Lib.hid (And.intro hrowd hbw)
      clear hval hrow hbw hrowd hbwd
      obtain ⟨vv, hvv⟩ : ∃ vv, txt (st ++ be8 T) = vv := ⟨_, rfl⟩
      rw [hvv] at hcv hcv2
      have HVV := Lib.hid hvv
      clear hvv
      go_wp2
      go_region
      go_wp2
      have hr2 : (((wr.setCell ⟨w.heap.size + 1, 0, none⟩ (.string (txt lk))).setCell ⟨w.heap.size + 1, 1, none⟩ (.string vv)).drew).heap[w.heap.size + 1]? = some (.cells #[.string (txt lk), .string vv] 52 (0, 0)) :=
        heap_setCell_same _ (w.heap.size + 1) 1 _ 52 _ (heap_setCell_same _ (w.heap.size + 1) 0 _ 52 _ HX.out.1)
      refine bodyPost_ret (v := .agg #[.string (txt lk), .string vv]) (results_cell_row rfl _ _ (w.heap.size + 1) 52 _ (0, 0) _ rfl hr2 Tryd.underlying52 rfl (by kernel_rfl)) rfl ?_
      refine ⟨by rw [HVV.out], ?_⟩
      have hz := HX.out.2.size
      have h2 : Ch (fun k => k = w.heap.size + 1) wr ((wr.setCell ⟨w.heap.size + 1, 0, none⟩ (.string (txt lk))).setCell ⟨w.heap.size + 1, 1, none⟩ (.string vv)) := Ch.tr (B := wr.setCell ⟨w.heap.size + 1, 0, none⟩ (.string (txt lk))) (Ch.setCell (S := fun k => k = w.heap.size + 1) wr _ _ fun _ => rfl) (Ch.setCell (S := fun k => k = w.heap.size + 1) _ _ _ fun _ => rfl)
      exact HX.out.2.trans ((h2.below hz fun k hk e => by omega).drew)
end Go.Proofs.YtfjlkphpeneahaaDoor
