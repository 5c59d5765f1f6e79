/- The walk of framesOf. -/
import Derived.Test.YtogihpofkjpokaaGreatDoorCFrames
namespace Go.Proofs.YtogihpofkjpokaaGreatDoor
open Go Go.RowKit Go.Maps
open D4 (put Asc RdS before_ne look_mem asc_ext)
open F5 (txt txt_size txt_data data_txt OwT RdT frameL flat sv)

/-- What the laws' texts keep to. -/
structure Fits (l : Tx) : Prop where
  len : l.length ≤ 1000
  each : ∀ p ∈ l, p.1.length ≤ 1000 ∧ p.2.length ≤ 1000
/-- The frames of a pile's chunks. -/
def framesL (l : Tx) : List UInt8 := flat (l.map fun p => 99 :: p.2)
theorem framesL_take {l : Tx} {i : Nat} (h : i < l.length) : framesL (l.take (i + 1)) = framesL (l.take i) ++ fr 99 (l[i]).2 := by
  unfold framesL fr
  rw [List.take_succ_eq_append_getElem h, List.map_append, F5.flat_append]
  simp [flat]
theorem framesL_cons (p : List UInt8 × List UInt8) (l : Tx) : framesL (p :: l) = fr 99 p.2 ++ framesL l := by
  unfold framesL fr; rw [List.map_cons, F5.flat_cons]
theorem fr_length (b : UInt8) (t : List UInt8) : (fr b t).length = 13 + t.length := by
  unfold fr; rw [F5.frameL_length]; simp; omega
/-- How many bytes they take. -/
def liveK (l : Tx) : Nat := (l.map fun p => 13 + p.2.length).sum
theorem framesL_length : ∀ l : Tx, (framesL l).length = liveK l
  | [] => rfl
  | p :: l => by rw [framesL_cons, List.length_append, fr_length, framesL_length l]; simp [liveK]
theorem liveK_le {k : Nat} : ∀ {l : Tx}, (∀ p ∈ l, p.2.length ≤ k) → liveK l ≤ l.length * (13 + k)
  | [], _ => by simp [liveK]
  | p :: l, h => by
    have h1 := liveK_le (k := k) (l := l) fun q hq => h q (by simp [hq])
    have h2 := h p (by simp)
    unfold liveK at h1 ⊢
    simp only [List.map_cons, List.sum_cons, List.length_cons, Nat.add_mul, Nat.one_mul]
    omega
theorem Fits.live {l : Tx} (h : Fits l) : liveK l ≤ 1013000 := by
  have := liveK_le (k := 1000) (l := l) fun p hp => (h.each p hp).2
  have := h.len
  omega
theorem Fits.take {l : Tx} (h : Fits l) (i : Nat) : Fits (l.take i) := ⟨by rw [List.length_take]; have := h.len; omega, fun p hp => h.each p (List.mem_of_mem_take hp)⟩
theorem look_at {l : Tx} (ha : Asc l) {i : Nat} (h : i < l.length) : D4.look ((l.map (·.1)).getD i []) l = some (l[i]).2 := by
  rw [List.getD_eq_getElem?_getD, List.getElem?_map, List.getElem?_eq_getElem h]
  exact D4.look_of_mem ha (List.getElem_mem h)
theorem byteCells_strCells (l : List UInt8) : Lib.strCells (txt l) = Lib.byteCells l := rfl
theorem byteCells_app (a b : List UInt8) : Lib.byteCells (a ++ b) = Lib.byteCells a ++ Lib.byteCells b := List.map_append
theorem fieldC (t : List UInt8) (w : World) : (Instr.field 79 (cv t) 0).run Tryz.prog w = .ok (.string (txt t)) w := by
  unfold cv
  kernel_rfl
/-- The rounds of framesOf. -/
structure FI (w wr : World) (m : Option Nat) (l : Tx) (v : Value) (i : Nat) : Prop where
  bld : Lib.IsBuilderF 126 5 w.heap.size w.heap.size (Lib.byteCells (framesL (l.take i))) wr
  pile : Pile wr m l
  own : OwT wr w.heap.size v (l.map (·.1))
  apart : v.ownBlock ≠ some w.heap.size
  below : Below w.heap.size w wr
theorem IsBuilderF_new {w w' : World} {B b : Nat} {bs : List Value} (h : Lib.IsBuilderF 126 5 B b bs w) (hb : Below w.heap.size w w') : Lib.IsBuilderF 126 5 B b bs w' := by
  have key : ∀ p, Lib.BuilderAtF 126 5 B b p bs w → Lib.BuilderAtF 126 5 B b p bs w' := by
    rintro p ⟨hB, v, hh, ho, hn⟩
    refine ⟨hB, v, (hb.block b (D4.lt_of_heap hh)).trans hh, ⟨ho.1, ?_⟩, hn⟩
    rcases ho.2 with h2 | ⟨g, cap, cur, fz, hv, hg, hgg, r⟩
    · exact .inl h2
    · exact .inr ⟨g, cap, cur, fz, hv, hg, (hb.block g (D4.lt_of_heap hgg)).trans hgg, r⟩
  exact h.imp (key _) (key _)
theorem FI.frame {w wr w1 : World} {m : Option Nat} {l : Tx} {v : Value} {i : Nat} (h : FI w wr m l v i) (hb : Below wr.heap.size wr w1) : FI w w1 m l v i where
  bld := IsBuilderF_new h.bld hb
  pile := h.pile.new hb
  own := h.own.new hb
  apart := h.apart
  below := h.below.trans (hb.mono h.below.size)
theorem FI.next {w wr w1 : World} {m : Option Nat} {l : Tx} {v : Value} {i : Nat} (h : FI w wr m l v i) (hi : i < l.length) (hm : ∀ b, m = some b → b < w.heap.size)
    (hB : Lib.BuilderAtF 126 5 w.heap.size w.heap.size (.pointer (some ⟨w.heap.size, 0, none⟩)) (Lib.byteCells (framesL (l.take i)) ++ Lib.strCells (txt (fr 99 (l[i]).2))) w1) (hb : Below w.heap.size wr w1) (ho : Lib.OthersKept 5 (some w.heap.size) wr w1) : FI w w1 m l v (i + 1) where
  bld := by
    rw [framesL_take hi, byteCells_app]
    exact .inr hB
  pile := h.pile.keep (Ch.of_below hb) fun b e hle => by have := hm b e; omega
  own := OwT_others h.own ho h.apart
  apart := h.apart
  below := h.below.trans hb
set_option maxRecDepth 100000 in
set_option maxHeartbeats 4000000 in
theorem framesOf_any {w : World} {m : Option Nat} {l : Tx} (h : Pile w m l) (hf : Fits l) :
    Calls Tryz.prog 61 #[.map m] w fun e w' => e = .returned (.string (txt (framesL l))) ∧ Below w.heap.size w w' := by
  have hl := hf.len
  have hl' : (l.length : Int) ≤ 1000 := by omega
  have hm : ∀ b, m = some b → b < w.heap.size := fun b e => h.lt e
  have h1 := h.new ((Below.refl _ _).alloc (Nat.le_refl _) (.cells #[.pointer none, .slice none 0 0] 126))
  have HP := Lib.hid (prints_any h1 (by omega))
  have H := Lib.hid (And.intro h (And.intro hf hm))
  clear h h1 hf hm
  go_enter Tryz.func61, Tryz.ntmps61
  go_wp2_with (go_at_call 40; (with_reducible refine HP.out.mono ?_); rintro e w1 ⟨v, rfl, ho, hb⟩; have hform := ho.form; rw [List.length_map] at hform; obtain ⟨a, c, rfl⟩ := hform)
  have hz1 : w.heap.size + 1 ≤ w1.heap.size := by have := hb.size; simpa using this
  have h0 : FI w w1 m l (.slice a l.length c) 0 := by
    refine ⟨?_, (H.out.1.new ((Below.refl _ _).alloc (Nat.le_refl _) _)).new hb, OwT_low ho (by simp), fun e => ?_, ((Below.refl _ _).alloc (Nat.le_refl _) _).trans (hb.mono (by simp))⟩
    · refine .inl ⟨Nat.le_refl _, .slice none 0 0, (hb.block _ (by simp)).trans (heap_alloc_new w _), ⟨rfl, .inl ⟨rfl, rfl⟩⟩, fun e => by cases e⟩
    · have := (ho.own _ e).1
      simp at this
      omega
  have H0 := Lib.hid h0
  clear ho hb h0 HP
  go_loopw [5, 9] (fun _ i wr => ∃ (ii : Nat), i = .int .i64 (ii : Int) ∧ ii ≤ l.length ∧ Hid (FI w wr m l (.slice a l.length c) ii)) (fun _ i _ => l.length - (intOf i).toNat)
  case atStart => exact ⟨0, rfl, Nat.zero_le _, H0⟩
  case round =>
    obtain ⟨ii, rfl, hi, HI⟩ := hrel
    clear H0
    by_cases hlt : ii < l.length
    · have hlt' : (ii : Int) < (l.length : Int) := by omega
      have hi0 : (0 : Int) ≤ (ii : Int) := by omega
      obtain ⟨a', c', he, hR, -⟩ := HI.out.own.rd
      rw [List.length_map] at he
      cases he
      obtain ⟨b, off, rfl, hc1⟩ := hR ii (by rw [List.length_map]; exact hlt)
      have hmem := List.getElem_mem hlt
      have hsz := H.out.2.1.each _ hmem
      have en : (l.map (·.1)).getD ii [] = (l[ii]).1 := by
        rw [List.getD_eq_getElem?_getD, List.getElem?_map, List.getElem?_eq_getElem hlt]; rfl
      have hL := HI.out.pile.look1 (txt ((l.map (·.1)).getD ii [])) (by rw [txt_size, en]; omega)
      rw [data_txt, look_at HI.out.pile.asc hlt] at hL
      have hF := fieldC (l[ii]).2
      have P1 := Lib.hid (framed_any 99 (l[ii]).2 (by omega))
      have P2 : Hid (∀ W, Below wr.heap.size wr W → Calls Tryz.prog 81 #[.pointer (some ⟨w.heap.size, 0, none⟩), .string (txt (fr 99 (l[ii]).2))] W fun e w' => e = .returned (.tuple #[.int .i64 (txt (fr 99 (l[ii]).2)).size, .nilIface]) ∧ FI w w' m l (.slice (some ⟨b, off, none⟩) l.length c) (ii + 1)) := Lib.hid fun W hW => by
        have h1 := HI.out.frame hW
        refine (Tryz.Builder_WriteString_k w.heap.size w.heap.size _ _ W h1.bld ?_ h1.below.size).mono ?_
        · have e1 := (H.out.2.1.take ii).live
          rw [← framesL_length] at e1
          rw [show (Lib.byteCells (framesL (l.take ii))).length = (framesL (l.take ii)).length from List.length_map .., txt_size, fr_length]
          omega
        · rintro e w' ⟨rfl, hB, hb, hO⟩
          exact ⟨rfl, h1.next hlt H.out.2.2 hB hb hO⟩
      clear hR hmem hsz en
      simp only [cvo] at hL
      generalize cv (l[ii]).2 = chk at hL hF
      generalize txt (l[ii]).2 = tt at hF P1
      generalize txt (fr 99 (l[ii]).2) = ff at P1 P2
      generalize txt ((l.map (·.1)).getD ii []) = kk at hc1 hL
      go_wp2_with (first | (go_at_call 62; (with_reducible refine (P1.out _).mono ?_); rintro e w2 ⟨rfl, hb2⟩) | (go_at_call 81; (with_reducible refine (P2.out _ hb2).mono ?_); rintro e w3 ⟨rfl, h3⟩))
      go_roundw
      case rel => exact ⟨ii + 1, by go_num, by omega, Lib.hid h3⟩
      case measure => simp [intOf]; omega
    · have hlt' : (l.length : Int) ≤ (ii : Int) := by omega
      have e : ii = l.length := by omega
      subst e
      have hbl := HI.out.bld
      rw [List.take_length] at hbl
      have P := Lib.hid (Tryz.Builder_String_any_k _ _ _ wr hbl HI.out.below.size)
      go_wp2_with (go_at_call 82; (with_reducible refine P.out.mono ?_); rintro e w2 ⟨rfl, -, hb2, -⟩)
      go_ret
      exact ⟨rfl, HI.out.below.trans hb2⟩
end Go.Proofs.YtogihpofkjpokaaGreatDoor
