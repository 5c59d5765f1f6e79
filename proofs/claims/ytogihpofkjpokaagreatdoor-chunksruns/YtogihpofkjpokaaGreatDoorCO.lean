/- maps.Copy over piles; readFrames, known, sealed, storeOf, Open. -/
import Derived.Test.YtogihpofkjpokaaGreatDoorCL
import Derived.Maps.RangeWalk
import Derived.Maps.StringElems
import Derived.Laws.IdiomRangeMap
namespace Go.Proofs.YtogihpofkjpokaaGreatDoor
open Go Go.RowKit Go.Maps
open D4 (put Asc)
open F5 (txt txt_size data_txt)

section
variable {w : World} {ops : Array Oper} {rest : List Oper} {o : Oper} {a : Act} {Q : Exit → Act → World → Prop}
/-- A text put into a pile, in the walk. -/
theorem wpList_pile (hg : o.guard = none) (m x v : Operand) (hop : o.op = Op.mapUpdate 71 m x v) {b : Nat} {l : Tx} (hm : a.eval m = .map (some b)) (h : Pile w (some b) l) (hl : l.length ≤ 1000000000)
    (n t : List UInt8) (hn : n.length ≤ 1000000000) (hx : a.eval x = .string (txt n)) (hv : a.eval v = cv t)
    (hK : ∀ w2, Pile w2 (some b) (put n t l) → Ch (fun k => k = b) w w2 → wpList Tryz.prog ops Q rest (a.put o.dst undef) w2) : wpList Tryz.prog ops Q (o :: rest) a w := by
  refine wpList_plain hg fun K hK' => ?_
  obtain ⟨w2, hrun, h1, h2⟩ := h.update (txt n) hn t hl
  rw [data_txt] at h1
  unfold Oper.wp
  simp [execOp, hop, hm, hx, hv, hrun, Result.andThen]
  exact hK' _ _ (hK w2 h1 h2)
end
theorem rdC_shape {v : Value} {y : DataW Nat × List MemPlace} (h : rdC v = some y) : ∃ t, v = cv t ∧ y = (.lit (.string t), []) := by
  unfold rdC at h
  split at h
  · rename_i a
    split at h
    · rename_i s hs
      cases h
      refine ⟨s.data.toList, ?_, rfl⟩
      unfold cv
      rw [F5.txt_data, ← hs]
    · cases h
  · cases h
/-- What has been copied: of what comes, what is not left. -/
def Part (out k f : Tx) (left : Lit → Bool) : Prop := Asc out ∧ ∀ n, D4.look n out = if (D4.look n f).isSome && !left (.string n) then D4.look n f else D4.look n k
theorem Part.start {k f : Tx} (hk : Asc k) : Part k k f (Maps.has (datT f)) := ⟨hk, fun n => by
  rw [datT_has]
  cases h : D4.look n f <;> simp⟩
theorem Part.step {out k f : Tx} {left : Lit → Bool} (h : Part out k f left) {n t : List UInt8} (hf : D4.look n f = some t) : Part (put n t out) k f (fun z => left z && !z.sameKey (.string n)) := by
  refine ⟨D4.put_asc h.1, fun m => ?_⟩
  rw [D4.look_put _ _ _ _ h.1]
  by_cases e : n = m
  · subst e
    rw [if_pos rfl, hf]
    simp [Lit.sameKey]
  · rw [if_neg e, h.2 m]
    have e2 : (Lit.string m).sameKey (.string n) = false := by simp [Lit.sameKey, Ne.symm e]
    show _ = if ((D4.look m f).isSome && !(left (.string m) && !(Lit.string m).sameKey (.string n))) = true then _ else _
    rw [e2]
    simp
theorem Part.done {out k f : Tx} {left : Lit → Bool} (h : Part out k f left) (hk : Asc k) (hf : Asc f) (h0 : ∀ kl, left kl = false) : out = putAll k f := by
  refine D4.asc_ext h.1 (putAll_asc hk) fun n => ?_
  rw [h.2 n, look_putAll n hk hf, h0]
  cases D4.look n f <;> simp

theorem at_some {n t : List UInt8} {f : Tx} (h : ∀ zd, (datT f).atKey (.string n) zd = .lit (.string t)) : D4.look n f = some t := by
  have h1 := h .nil
  rw [datT_at] at h1
  cases hl : D4.look n f with
  | none => rw [hl] at h1; cases h1
  | some b => rw [hl] at h1; cases h1; rfl
/-- The rounds of Copy. -/
structure CI (w wr : World) (bd bs : Nat) (k f out : Tx) (left : Lit → Bool) (cnt : Nat) : Prop where
  rng : wr.ranges Tryz.prog 9 rdC bs w.heap.size f.length (datT f) left cnt
  pile : Pile wr (some bd) out
  part : Part out k f left
  len : out.length + cnt ≤ k.length + f.length
  ch : Ch (fun j => j = bd) w wr
set_option maxRecDepth 100000 in
set_option maxHeartbeats 4000000 in
theorem copy_any {w : World} {bd : Nat} {fm : Option Nat} {k f : Tx} (hk : Pile w (some bd) k) (hf : Pile w fm f) (hne : fm ≠ some bd) (hl : k.length + f.length ≤ 100000) (hfn : ∀ p ∈ f, p.1.length ≤ 1000) :
    Calls Tryz.prog 38 #[.map (some bd), .map fm] w fun e w' => e = .returned (.tuple #[]) ∧ Pile w' (some bd) (putAll k f) ∧ Ch (fun j => j = bd) w w' := by
  cases hm : fm with
  | none =>
    have hrg := run_range_nilMap (P := Tryz.prog) w 71 _ _ Tryz.underlying71
    have hnx : ∀ ty, (Instr.next (.pointer (some ⟨w.heap.size, 0, none⟩)) false ty).run Tryz.prog (w.alloc (.mapIter none 0 #[] 0)) = _ := fun ty => run_next_nilMap _ ty 0 0 #[]
    have H := Lib.hid hk
    have hfe := hf.nomap hm
    clear hk hf
    go_enter Tryz.func38, Tryz.ntmps38
    go_wp2
    refine wp_loop_rounds 1 ?_
    rw [rounds_succ]
    go_wp2
    go_end0
    refine ⟨rfl, ?_, Ch.alloc _ _ _⟩
    rw [hfe]
    exact H.out.new ((Below.refl _ _).alloc (Nat.le_refl _) _)
  | some bs =>
    have ho := hf.map bs hm
    have hbs := ho.lt
    have hbd : bd < w.heap.size := hk.lt rfl
    have hneb : bs ≠ bd := fun e => hne (by rw [hm, e])
    have hka := hk.asc
    have hfa := hf.asc
    have H := Lib.hid hk
    clear hk hf hne
    go_enter Tryz.func38, Tryz.ntmps38
    go_wp2_with (first
      | (at_range; refine wpList_range_own _ rfl _ 71 rfl 9 79 (string_keyed Tryz.underlying9) Tryz.underlying71 rdC bs _ _ rfl ho ?_; intro w0 hrg0 hg0 hs0)
      | go_in)
    have H0 : Hid (CI w w0 bd bs k f k (Maps.has (datT f)) (Maps.size (datT f))) := Lib.hid ⟨hrg0, H.out.keep (Ch.of_grown (S := fun _ => False) hg0 fun _ e => by cases e) (fun _ _ => id), Part.start hka, by rw [datT_size]; exact Nat.le_refl _, Ch.of_grown hg0 fun _ e => by cases e⟩
    clear hrg0 hg0 hs0 ho
    go_frame
    go_loopw [4, 5, 8] (fun _ _ _ wr => ∃ (left : Lit → Bool) (cnt : Nat) (out : Tx), Hid (CI w wr bd bs k f out left cnt)) (fun _ _ _ wr => wr.rangeLeft bs w.heap.size)
    case atStart => exact ⟨_, _, _, H0⟩
    case round =>
      clear H0
      obtain ⟨left, cnt, out, HI⟩ := hrel
      have hrg := HI.out.rng
      go_wp2_with (first
        | (at_next; go_loud (refine wpList_next_ranges _ rfl _ rfl 9 (string_keyed Tryz.underlying9) rdC Value.string (fun t => .agg #[.string (txt t)]) (fun key _ h => by obtain ⟨s, hs, _⟩ := _root_.Go.WideMaps.string_of_keyOf Tryz.underlying9 h; exact ⟨s, hs⟩) (fun v _ h => by obtain ⟨t, ht, _⟩ := rdC_shape h; exact ⟨t, ht⟩) bs w.heap.size _ _ _ _ rfl hrg ?_ ?_))
        | go_in)
      · intro hc0 hl0
        go_wp2
        go_end0
        refine ⟨rfl, ?_, HI.out.ch⟩
        rw [← HI.out.part.done hka hfa hl0]
        exact HI.out.pile
      · intro x c kl yd yp w1 cnt1 hkey hlx hv hat hrg1 hlt hg1 hs1 hen
        obtain ⟨s, hsx, hkl, hsz⟩ := _root_.Go.WideMaps.string_of_keyOf Tryz.underlying9 hkey
        cases hsx
        subst hkl
        obtain ⟨t, ht, hy⟩ := rdC_shape hv
        cases hy
        have hct : c = t := by
          have := congrArg rdC (show cv c = cv t from ht)
          rw [rdC_cv, rdC_cv] at this
          simpa using this
        subst hct
        have hlook := at_some hat
        have hp1 : Hid (Pile w1 (some bd) out) := Lib.hid (HI.out.pile.keep (Ch.of_grown (S := fun j => j = w.heap.size) hg1 (fun j e => by cases e; rfl)) (fun b e => by cases e; show ¬ bd = w.heap.size; omega))
        have hlen := HI.out.len
        have hxs : x.data.toList.length ≤ 1000000000 := by have := hfn _ (D4.look_mem hlook); simp only at this; omega
        have HX := Lib.hid (And.intro hlook hxs)
        have HR := Lib.hid (And.intro hrg1 (And.intro hg1 hlt))
        have hol : out.length ≤ 1000000000 := by omega
        have hw1 : w.heap.size ≤ w1.heap.size := by rw [hs1]; exact HI.out.ch.size
        clear hlook hxs hkey hsz hv ht hat hrg1 hg1 hlt hlx hrg
        obtain ⟨tc, htc⟩ : ∃ tc, txt c = tc := ⟨_, rfl⟩
        have hcv : cv c = .agg #[.string tc] := by rw [← htc]; rfl
        rw [htc] at hen ⊢
        clear htc
        have HCV := Lib.hid hcv
        clear hcv
        have HN := Lib.hid (And.intro hlen hol)
        clear hol
        have hp2 := Lib.hid (hp1.out.new ((Below.refl _ _).alloc (Nat.le_refl _) (.cells #[.string tc] 79)))
        go_wp2_with (first
          | (at_mapUpdate; refine wpList_pile rfl _ _ _ rfl (b := bd) (l := out) rfl hp2.out HN.out.2 x.data.toList c HX.out.2 rfl HCV.out.symm ?_; intro w2 hq2 hc2; go_frame)
          | go_in)
        have hcs := HI.out.ch.size
        have hca : Ch (fun j => j = bd) w1 w2 := (Ch.alloc _ _ _).tr hc2
        have hg3 : w1.grownBy w2 (some bd) := ⟨hca.os, hca.tape, hca.output, hca.size, fun k hk hn => hca.block k hk (fun e => hn (by rw [e]))⟩
        have hrg2 := HR.out.1.kept hg3 (fun e => hneb (Option.some.inj e)) (fun e => by have := Option.some.inj e; omega)
        have HE : Hid (CI w w2 bd bs k f (put x.data.toList c out) (fun z => left z && !z.sameKey (.string x.data.toList)) cnt1) := Lib.hid ⟨hrg2, hq2, HI.out.part.step HX.out.1, by
          have h1 := put_len x.data.toList c out
          have h2 := HR.out.2.2
          have h3 := HN.out.1
          omega, (HI.out.ch.trans (Ch.of_grown (S := fun j => j = w.heap.size) HR.out.2.1 fun j e => by cases e; rfl) fun j hj e => by omega).tr hca⟩
        have hlt : w2.rangeLeft bs w.heap.size < wr.rangeLeft bs w.heap.size := by rw [hrg2.left_eq, HI.out.rng.left_eq]; exact HR.out.2.2
        go_roundw
        case rel => exact ⟨_, _, _, HE⟩
        case measure => exact hlt
end Go.Proofs.YtogihpofkjpokaaGreatDoor
namespace Go.Proofs.YtogihpofkjpokaaGreatDoor
open Go Go.RowKit Go.Maps
open D4 (put Asc Lg Dk dp)
open F5 (txt txt_size data_txt frameL flat OwT RdT)

theorem read_has {l : Lg} {n : List UInt8} {x : List UInt8 × Nat} (hd : l.down = false) (hn : D4.nameB n = true) (h : D4.look n l.fs = some x) : l.findC n = 0 ∧ l.readS n = x.1 := by
  rcases D4.ways l n with ⟨h1, _⟩ | ⟨_, h1, _⟩ | ⟨_, _, h1, _⟩ | ⟨y, _, _, h1, hc, ho⟩
  · rw [hd] at h1; cases h1
  · rw [hn] at h1; cases h1
  · rw [h] at h1; cases h1
  · rw [h] at h1; cases h1
    refine ⟨hc, ?_⟩
    unfold Lg.readS; rw [if_pos hc, ho]
theorem read_no {l : Lg} {n : List UInt8} (hd : l.down = false) (hn : D4.nameB n = true) (h : D4.look n l.fs = none) : l.findC n = 4 ∧ l.readS n = [] := by
  rcases D4.ways l n with ⟨h1, _⟩ | ⟨_, h1, _⟩ | ⟨_, _, _, hc⟩ | ⟨y, _, _, h1, _⟩
  · rw [hd] at h1; cases h1
  · rw [hn] at h1; cases h1
  · refine ⟨hc, ?_⟩
    unfold Lg.readS; rw [if_neg (by rw [hc]; decide)]
  · rw [h] at h1; cases h1
/-- The contents of a file, as a value. -/
def conV (v : Value) (tail : List UInt8) (n : Nat) : Value := .agg #[v, .string (txt tail), .int .i64 (n : Int)]
set_option maxRecDepth 100000 in
set_option maxHeartbeats 2000000 in
theorem readFrames_any {w : World} {d : Nat} {l : Lg} {G : Nat → Prop} (h : Dk w d l G) (hd : l.down = false) (n : ByteArray) (hn : D4.nameB n.data.toList = true) (hp : Pre (dat (D4.look n.data.toList l.fs))) (hD : (dat (D4.look n.data.toList l.fs)).length ≤ 100000) :
    Calls Tryz.prog 31 #[dp d, .string n] w fun e w' => ∃ v xs tail, e = .returned (.tuple #[conV v tail (dat (D4.look n.data.toList l.fs)).length, .int .i64 0]) ∧ OwT w' w.heap.size v xs ∧ (∀ x ∈ xs, Pl x) ∧ CutOff tail ∧ dat (D4.look n.data.toList l.fs) = flat xs ++ tail ∧ Below w.heap.size w w' := by
  have P1 : Hid (∀ W, Below w.heap.size w W → Calls Tryz.prog 50 #[dp d, .string n] W fun e w' => e = .returned (.tuple #[.string ⟨(l.readS n.data.toList).toArray⟩, .int .i64 (l.findC n.data.toList)]) ∧ w' = W) := Lib.hid fun W hW => D4.read_any (h.new hW) n
  have HB := Lib.hid (fun o => (Below.refl w.heap.size w).alloc (Nat.le_refl _) o)
  cases hl : D4.look n.data.toList l.fs with
  | none =>
    obtain ⟨e1, e2⟩ := read_no hd hn hl
    rw [e1, e2] at P1
    clear h
    unfold dp at P1 ⊢
    go_enter Tryz.func31, Tryz.ntmps31
    go_wp2_with (go_at_call 50; (with_reducible refine (P1.out _ (HB.out _)).mono ?_); rintro e w1 ⟨rfl, rfl⟩)
    refine bodyPost_ret (v := .tuple #[conV (.slice none 0 0) [] 0, .int .i64 0]) (by simp [results, Tryz.results31, go_sem, conV]; rfl) rfl ?_
    exact ⟨_, [], [], rfl, OwT.nil _ _, (fun x hx => by cases hx), CutOff.nil, rfl, (Below.refl _ _).alloc (Nat.le_refl _) _⟩
  | some x =>
    obtain ⟨e1, e2⟩ := read_has hd hn hl
    rw [e1, e2] at P1
    rw [hl] at hp hD
    clear h
    have hD : x.1.length ≤ 100000 := hD
    have hp : Pre x.1 := hp
    have P2 := Lib.hid (F5.scan_any x.1 hD)
    have hz := txt_size x.1
    have hDi : (x.1.length : Int) ≤ 100000 := by omega
    have P3 : Hid (∀ W, Calls Tryz.prog 51 #[.string (txt x.1)] W fun e w' => ∃ (a : Option Addr) (c : Nat) (xs : List (List UInt8)) (tail : List UInt8) (k : Nat), e = .returned (.tuple #[.slice a xs.length c, .int .i64 (k : Int)]) ∧ Hid (OwT w' W.heap.size (.slice a xs.length c) xs) ∧ Hid ((∀ x ∈ xs, Pl x) ∧ CutOff tail ∧ x.1 = flat xs ++ tail) ∧ Below W.heap.size W w' ∧ k ≤ x.1.length ∧ (txt x.1).extract k x.1.length = txt tail) := Lib.hid fun W => by
      refine (P2.out W).mono ?_
      rintro e w' ⟨v, xs, rfl, ho, hs, hb⟩
      obtain ⟨xs', tail, hx, ht, he⟩ := hp
      have hs' := scanned_of hx ht
      rw [← he] at hs'
      have := hs.unique hs'
      subst this
      obtain ⟨a, c, hv⟩ := ho.form
      subst hv
      refine ⟨a, c, xs, tail, (flat xs).length, rfl, Lib.hid ho, Lib.hid ⟨hx, ht, he⟩, hb, by rw [he, List.length_append]; omega, ?_⟩
      rw [F5.txt_drop, he]
      simp
    clear P2 hp
    show Calls Tryz.prog 31 #[dp d, .string n] w fun e w' => ∃ v xs tail, e = .returned (.tuple #[conV v tail x.1.length, .int .i64 0]) ∧ OwT w' w.heap.size v xs ∧ (∀ x ∈ xs, Pl x) ∧ CutOff tail ∧ x.1 = flat xs ++ tail ∧ Below w.heap.size w w'
    have P1' : Hid (∀ W, Below w.heap.size w W → Calls Tryz.prog 50 #[dp d, .string n] W fun e w' => e = .returned (.tuple #[.string (txt x.1), .int .i64 0]) ∧ w' = W) := P1
    clear P1
    generalize x.1 = D at *
    generalize htd : txt D = tt at *
    unfold dp at P1' ⊢
    go_enter Tryz.func31, Tryz.ntmps31
    go_wp2_with (first
      | (go_at_call 50; (with_reducible refine (P1'.out _ (HB.out _)).mono ?_); rintro e w1 ⟨rfl, rfl⟩)
      | (go_at_call 51; (with_reducible refine (P3.out _).mono ?_); rintro e w2 ⟨a, c, xs, tail, k, rfl, ho, hx, hb, hk, hex⟩; have hk' : (k : Int) ≤ (D.length : Int) := by omega
         have hk0 : (0 : Int) ≤ (k : Int) := by omega
         have hblk : w2.heap[w.heap.size]? = some (.cells #[.slice none 0 0, .string ⟨#[]⟩, .int .i64 0] 64 (0, 0)) := (hb.block _ (by simp)).trans (heap_alloc_new w _)
         have k0 := cell_of_row _ _ 0 _ _ _ hblk
         have k1 := cell_of_row _ _ 1 _ _ _ hblk
         have k2 := cell_of_row _ _ 2 _ _ _ hblk
         have f0 := frozen_of_row _ _ 0 _ _ hblk
         have f1 := frozen_of_row _ _ 1 _ _ hblk
         have f2 := frozen_of_row _ _ 2 _ _ hblk))
    have r0 := heap_setCell_same w2 w.heap.size 0 _ 64 (.slice a xs.length c) hblk
    have r1 := heap_setCell_same _ w.heap.size 1 _ 64 (.string (txt tail)) r0
    have r2 := heap_setCell_same _ w.heap.size 2 _ 64 (.int .i64 (D.length : Int)) r1
    have hC : Ch (fun k => k = w.heap.size) w2 (((w2.setCell ⟨w.heap.size, 0, none⟩ (.slice a xs.length c)).setCell ⟨w.heap.size, 1, none⟩ (.string (txt tail))).setCell ⟨w.heap.size, 2, none⟩ (.int .i64 (D.length : Int))) := ((Ch.setCell (S := fun k => k = w.heap.size) _ _ _ fun _ => rfl).tr (Ch.setCell (S := fun k => k = w.heap.size) _ _ _ fun _ => rfl)).tr (Ch.setCell (S := fun k => k = w.heap.size) _ _ _ fun _ => rfl)
    clear k0 k1 k2 f0 f1 f2 r0 r1
    generalize ((w2.setCell ⟨w.heap.size, 0, none⟩ (.slice a xs.length c)).setCell ⟨w.heap.size, 1, none⟩ (.string (txt tail))).setCell ⟨w.heap.size, 2, none⟩ (.int .i64 (D.length : Int)) = W at r2 hC ⊢
    have k0 := cell_of_row _ _ 0 _ _ _ r2
    have k1 := cell_of_row _ _ 1 _ _ _ r2
    have k2 := cell_of_row _ _ 2 _ _ _ r2
    refine bodyPost_ret (v := .tuple #[conV (.slice a xs.length c) tail D.length, .int .i64 0]) (by simp [results, Tryz.results31, go_sem, conV, k0, k1, k2]) rfl ?_
    have hb2 : Below w.heap.size w w2 := (HB.out _).trans (hb.mono (by simp))
    refine ⟨_, xs, tail, rfl, ?_, hx.out.1, hx.out.2.1, hx.out.2.2, hb2.trans (hC.below hb2.size fun k hk e => by omega)⟩
    refine OwT_low (ho.out.keep hC fun k hk e => ?_) (by simp)
    have := (ho.out.own k hk).1
    simp at this
    omega
/-! known -/
theorem pre_c (t : List UInt8) : Lib.hasPrefix (99 :: t) [99] = true := by simp [Lib.hasPrefix]
theorem pre_rc (t : List UInt8) : Lib.hasPrefix (114 :: t) [99] = false := rfl
theorem pre_r (x : List UInt8) : Lib.hasPrefix x [114] = isR x := by
  cases x with
  | nil => rfl
  | cons b t =>
    show ((114 : UInt8) == b && true) = (b == 114)
    rw [Bool.and_true]; exact BEq.comm
theorem alloc_con (w : World) (a : Option Addr) (n c : Nat) (t : List UInt8) (k : Nat) : (w.alloc (.cells #[.slice a n c, .string (txt t), .int .i64 (k : Int)] 64)).heap[w.heap.size]? = some (.cells #[.slice a n c, .string (txt t), .int .i64 (k : Int)] 64 (0, 0)) := heap_alloc_new _ _
set_option maxRecDepth 100000 in
set_option maxHeartbeats 2000000 in
theorem known_any {w : World} {a : Option Addr} {c k : Nat} {xs : List (List UInt8)} {tail : List UInt8} (hR : RdT w a xs) (hA : ∀ ad, a = some ad → ad.block < w.heap.size) (hx : ∀ x ∈ xs, Pl x) (ht : CutOff tail) (hlen : xs.length ≤ 1000000) :
    Calls Tryz.prog 32 #[conV (.slice a xs.length c) tail k] w fun e w' => e = .returned (.bool true) ∧ Below w.heap.size w w' := by
  unfold conV
  have H1 := Lib.hid (hR.new ((Below.refl _ _).alloc (Nat.le_refl _) (.cells #[.slice a xs.length c, .string (txt tail), .int .i64 (k : Int)] 64)))
  have H0 : Hid (Below w.heap.size w (w.alloc (.cells #[.slice a xs.length c, .string (txt tail), .int .i64 (k : Int)] 64))) := Lib.hid ((Below.refl _ _).alloc (Nat.le_refl _) _)
  have H2 := Lib.hid (alloc_con w a xs.length c tail k)
  have P := Lib.hid (fun W => cut_any ht W)
  have hl' : (xs.length : Int) ≤ 1000000 := by omega
  have HX := Lib.hid hx
  clear hR ht hx
  go_enter Tryz.func32, Tryz.ntmps32
  go_wp2
  go_loopw [4, 8] (fun _ i wr => ∃ ii : Nat, i = .int .i64 (ii : Int) ∧ ii ≤ xs.length ∧ wr = w.alloc (.cells #[.slice a xs.length c, .string (txt tail), .int .i64 (k : Int)] 64)) (fun _ i _ => xs.length - (intOf i).toNat)
  case atStart => exact ⟨0, rfl, Nat.zero_le _, rfl⟩
  case round =>
    obtain ⟨ii, rfl, hi, rfl⟩ := hrel
    by_cases hlt : ii < xs.length
    · have hlt' : (ii : Int) < (xs.length : Int) := by omega
      have hi0 : (0 : Int) ≤ (ii : Int) := by omega
      obtain ⟨b, off, rfl, hc1⟩ := H1.out ii hlt
      have hp := HX.out _ (List.getElem_mem hlt)
      rw [F5.getD_at hlt] at hc1
      obtain ⟨t, _, e | e⟩ := hp
      · rw [e] at hc1
        have P1 := Lib.hid (fun W => Tryz.strings_HasPrefix (txt (99 :: t)) ⟨#[99]⟩ W)
        rw [data_txt, show (⟨#[99]⟩ : ByteArray).data.toList = [99] from rfl, pre_c] at P1
        clear e
        generalize txt (99 :: t) = tt at hc1 P1
        go_wp2_with (go_at_call 52; (with_reducible refine (P1.out _).mono ?_); rintro e w1 ⟨rfl, rfl⟩)
        go_roundw
        case rel => exact ⟨ii + 1, by go_num, by omega, trivial⟩
        case measure => simp [intOf]; omega
      · rw [e] at hc1
        have P1 := Lib.hid (fun W => Tryz.strings_HasPrefix (txt (114 :: t)) ⟨#[99]⟩ W)
        have P2 := Lib.hid (fun W => Tryz.strings_HasPrefix (txt (114 :: t)) ⟨#[114]⟩ W)
        rw [data_txt, show (⟨#[99]⟩ : ByteArray).data.toList = [99] from rfl, pre_rc] at P1
        rw [data_txt, show (⟨#[114]⟩ : ByteArray).data.toList = [114] from rfl, pre_r, show isR (114 :: t) = true from rfl] at P2
        clear e
        generalize txt (114 :: t) = tt at hc1 P1 P2
        go_wp2_with (go_at_call 52; first | ((with_reducible refine (P1.out _).mono ?_); rintro e w1 ⟨rfl, rfl⟩) | ((with_reducible refine (P2.out _).mono ?_); rintro e w1 ⟨rfl, rfl⟩))
        go_roundw
        case rel => exact ⟨ii + 1, by go_num, by omega, trivial⟩
        case measure => simp [intOf]; omega
    · have hlt' : (xs.length : Int) ≤ (ii : Int) := by omega
      have k1 := cell_of_row _ _ 1 _ _ _ H2.out
      go_wp2_with (go_at_call 53; (with_reducible refine (P.out _).mono ?_); rintro e w1 ⟨rfl, hb⟩)
      go_ret
      exact ⟨rfl, H0.out.trans (hb.mono H0.out.size)⟩
end Go.Proofs.YtogihpofkjpokaaGreatDoor
namespace Go.Proofs.YtogihpofkjpokaaGreatDoor
open Go Go.RowKit Go.Maps
open D4 (put Asc Lg Dk dp)
open F5 (txt txt_size data_txt frameL flat OwT RdT)

set_option maxRecDepth 100000 in
set_option maxHeartbeats 2000000 in
theorem sealed_any {w : World} {a : Option Addr} {c k : Nat} {xs ys cs : List (List UInt8)} {tail : List UInt8} (hR : RdT w a xs) (he : xs = ys ++ cs) (hs : Sealed ys) (hc : ∀ x ∈ cs, PlC x) (hlen : xs.length ≤ 1000000) :
    Calls Tryz.prog 54 #[conV (.slice a xs.length c) tail k] w fun e w' => e = .returned (.int .i64 (ys.length : Int)) ∧ Below w.heap.size w w' := by
  unfold conV
  have H1 := Lib.hid (hR.new ((Below.refl _ _).alloc (Nat.le_refl _) (.cells #[.slice a xs.length c, .string (txt tail), .int .i64 (k : Int)] 64)))
  have H0 : Hid (Below w.heap.size w (w.alloc (.cells #[.slice a xs.length c, .string (txt tail), .int .i64 (k : Int)] 64))) := Lib.hid ((Below.refl _ _).alloc (Nat.le_refl _) _)
  have H2 := Lib.hid (alloc_con w a xs.length c tail k)
  have hl' : (xs.length : Int) ≤ 1000000 := by omega
  have HL : Hid (∀ n, n ≤ xs.length → (∀ i, n ≤ i → (h : i < xs.length) → isR xs[i] = false) → (n = 0 ∨ isR (xs.getD (n - 1) []) = true) → n = ys.length) := Lib.hid fun n h1 h2 h3 => by
    subst he
    exact sealed_len hs hc n h1 h2 h3
  clear hR he hs hc
  go_enter Tryz.func54, Tryz.ntmps54
  go_wp2
  go_loopw [3] (fun i wr => ∃ ii : Nat, i = .int .i64 (ii : Int) ∧ ii ≤ xs.length ∧ Hid (∀ i, ii ≤ i → (h : i < xs.length) → isR xs[i] = false) ∧ wr = w.alloc (.cells #[.slice a xs.length c, .string (txt tail), .int .i64 (k : Int)] 64)) (fun i _ => (intOf i).toNat)
  case atStart => exact ⟨xs.length, rfl, Nat.le_refl _, Lib.hid (fun i h1 h2 => by omega), rfl⟩
  case round =>
    obtain ⟨ii, rfl, hi, HF, rfl⟩ := hrel
    have k0 := cell_of_row _ _ 0 _ _ _ H2.out
    by_cases hz : ii = 0
    · subst hz
      have e := HL.out 0 (Nat.zero_le _) HF.out (.inl rfl)
      go_wp2
      go_ret
      rw [← e]
      exact ⟨rfl, H0.out⟩
    · obtain ⟨j, hji⟩ : ∃ j, ii = j + 1 := ⟨ii - 1, by omega⟩
      have hpos : (0 : Int) < (ii : Int) := by omega
      have hj : (ii : Int) - 1 = (j : Int) := by omega
      have hw : IntKind.i64.wrap ((j : Int)) = (j : Int) := IntWalk.i64_in _ (by omega)
      have hlt : j < xs.length := by omega
      have hlt' : (j : Int) < (xs.length : Int) := by omega
      have hj0 : (0 : Int) ≤ (j : Int) := by omega
      have hj1 : (ii : Int) ≤ 1000000 := by omega
      have HJ := Lib.hid (And.intro hji hi)
      obtain ⟨b, off, rfl, hc1⟩ := H1.out j hlt
      have P1 := Lib.hid (fun W => Tryz.strings_HasPrefix (txt (xs.getD j [])) ⟨#[114]⟩ W)
      rw [data_txt, show (⟨#[114]⟩ : ByteArray).data.toList = [114] from rfl, pre_r] at P1
      cases hr : isR (xs.getD j []) with
      | true =>
        rw [hr] at P1
        have e := Lib.hid (HL.out ii hi HF.out (.inr (by rw [hji]; exact hr)))
        clear hr hji hi hlt hz
        generalize txt (xs.getD j []) = tt at hc1 P1
        go_wp2_with (go_at_call 52; (with_reducible refine (P1.out _).mono ?_); rintro e w1 ⟨rfl, rfl⟩)
        go_ret
        rw [← e.out]
        exact ⟨rfl, H0.out⟩
      | false =>
        rw [hr] at P1
        have HF2 : Hid (∀ i, j ≤ i → (h : i < xs.length) → isR xs[i] = false) := Lib.hid fun i h1 h2 => by
          by_cases e : j = i
          · subst e
            rw [F5.getD_at h2] at hr
            exact hr
          · exact HF.out i (by omega) h2
        clear hr hji hi hlt hz
        generalize txt (xs.getD j []) = tt at hc1 P1
        go_wp2_with (go_at_call 52; (with_reducible refine (P1.out _).mono ?_); rintro e w1 ⟨rfl, rfl⟩)
        go_roundw
        case rel => exact ⟨j, by go_num, (by have := HJ.out; omega), HF2, trivial⟩
        case measure => have := HJ.out.1; simp [intOf]; omega

/-- A store as storeOf makes it. -/
def SS.new (d size r : Nat) (t : Bool) (root : List UInt8) (mb : Nat) : SS := ⟨d, size, r, t, root, some mb, none, false⟩
/-- The rounds of storeOf: i payloads have been read. -/
structure OI (w wr : World) (sb mb d size : Nat) (t : Bool) (ys : List (List UInt8)) (i : Nat) : Prop where
  at_ : SAt wr sb (SS.new d size (readP (ys.take i)).2.2 t (readP (ys.take i)).1 mb)
  pile : Pile wr (some mb) (readP (ys.take i)).2.1
  below : Below w.heap.size w wr
  new : w.heap.size ≤ sb ∧ w.heap.size ≤ mb
  kr : S1.KR wr
  pos : 0 < w.heap.size
theorem readP_take {ys : List (List UInt8)} {i : Nat} (h : i < ys.length) : readP (ys.take (i + 1)) = stepP (readP (ys.take i)) (ys[i]) := by
  unfold readP
  rw [List.take_succ_eq_append_getElem h, List.foldl_append]
  rfl
theorem readP_len : ∀ (ys : List (List UInt8)) (q : List UInt8 × Tx × Nat), (ys.foldl stepP q).2.1.length ≤ q.2.1.length + ys.length := by
  intro ys
  induction ys with
  | nil => intro q; exact Nat.le_refl _
  | cons y ys ih =>
    intro q
    have h1 := ih (stepP q y)
    have h2 : (stepP q y).2.1.length ≤ q.2.1.length + 1 := by
      cases y with
      | nil => exact Nat.le_add_right _ _
      | cons b t =>
        by_cases hb : b = 114
        · subst hb; exact Nat.le_add_right _ _
        · rw [show stepP q (b :: t) = if b = 114 then (t, q.2) else (q.1, put (sha t) t q.2.1, q.2.2 + (12 + (t.length + 1))) from rfl, if_neg hb]
          exact put_len _ _ _
    simp only [List.foldl_cons, List.length_cons]
    omega
theorem readP_live : ∀ (ys : List (List UInt8)) (q : List UInt8 × Tx × Nat), (∀ y ∈ ys, Pl y) → (ys.foldl stepP q).2.2 ≤ q.2.2 + 2000 * ys.length := by
  intro ys
  induction ys with
  | nil => intro q _; exact Nat.le_refl _
  | cons y ys ih =>
    intro q hy
    have h1 := ih (stepP q y) fun z hz => hy z (by simp [hz])
    have h2 : (stepP q y).2.2 ≤ q.2.2 + 2000 := by
      obtain ⟨t, ht, rfl | rfl⟩ := hy y (by simp)
      · show q.2.2 + (12 + (t.length + 1)) ≤ _; omega
      · show q.2.2 ≤ _; omega
    simp only [List.foldl_cons, List.length_cons]
    omega
/-- A root read. -/
theorem OI.root {w wr : World} {sb mb d size : Nat} {t : Bool} {ys : List (List UInt8)} {i : Nat} (h : OI w wr sb mb d size t ys i) (hi : i < ys.length) {x : List UInt8} (hx : ys[i] = 114 :: x) :
    OI w (wr.setCell ⟨sb, 4, none⟩ (.string (txt x))) sb mb d size t ys (i + 1) := by
  have e : readP (ys.take (i + 1)) = (x, (readP (ys.take i)).2) := by rw [readP_take hi, hx]; rfl
  have hc : Ch (fun k => k = sb) wr (wr.setCell ⟨sb, 4, none⟩ (.string (txt x))) := Ch.setCell _ _ _ fun _ => rfl
  have hmb : mb ≠ sb := fun e => by
    obtain ⟨es, c, ho⟩ := h.pile.obj rfl
    have := h.at_
    unfold SAt at this
    rw [← e, ho] at this
    cases this
  have h0 := h.pos
  refine ⟨by rw [e]; exact h.at_.set 4 _, by rw [e]; exact h.pile.keep hc fun b e => by cases e; exact hmb, h.below.trans (hc.below h.below.size fun k hk e => by have := h.new.1; omega), h.new, KR_keep h.kr hc (fun e => by have := h.new.1; omega), h0⟩
theorem OI.frame {w wr w1 : World} {sb mb d size : Nat} {t : Bool} {ys : List (List UInt8)} {i : Nat} (h : OI w wr sb mb d size t ys i) (hb : Below wr.heap.size wr w1) : OI w w1 sb mb d size t ys i :=
  ⟨h.at_.new hb, h.pile.new hb, h.below.trans (hb.mono h.below.size), h.new, h.kr.step hb, h.pos⟩
theorem sha_len (x : List UInt8) : (sha x).length = 32 := rfl
/-- A chunk read. -/
theorem OI.chunk {w wr : World} {sb mb d size : Nat} {t : Bool} {ys : List (List UInt8)} {i : Nat} (h : OI w wr sb mb d size t ys i) (hi : i < ys.length) {x : List UInt8} (hx : ys[i] = 99 :: x) (hl : ys.length ≤ 100000) :
    ∃ w2, (Instr.mapUpdate 71 (.map (some mb)) (.string (txt (sha x))) (.agg #[.string (txt x)])).run Tryz.prog wr = .ok () w2 ∧ SAt w2 sb (SS.new d size (readP (ys.take i)).2.2 t (readP (ys.take i)).1 mb) ∧
      OI w (w2.setCell ⟨sb, 2, none⟩ (.int .i64 (((readP (ys.take i)).2.2 + (12 + (x.length + 1)) : Nat) : Int))) sb mb d size t ys (i + 1) := by
  have e : readP (ys.take (i + 1)) = ((readP (ys.take i)).1, put (sha x) x (readP (ys.take i)).2.1, (readP (ys.take i)).2.2 + (12 + (x.length + 1))) := by rw [readP_take hi, hx]; rfl
  have hz : (readP (ys.take i)).2.1.length ≤ 1000000000 := by
    have := readP_len (ys.take i) ([], [], 0)
    rw [List.length_take] at this
    unfold readP
    simp only [List.length_nil] at this
    omega
  obtain ⟨w2, hrun, hp, hc⟩ := h.pile.update (txt (sha x)) (by rw [txt_size, sha_len]; omega) x hz
  rw [data_txt] at hp
  have hmb : mb ≠ sb := fun e => by
    obtain ⟨es, c, ho⟩ := h.pile.obj rfl
    have := h.at_
    unfold SAt at this
    rw [← e, ho] at this
    cases this
  have ha := h.at_.keep hc (Ne.symm hmb)
  have hc2 : Ch (fun k => k = sb ∨ k = mb) wr (w2.setCell ⟨sb, 2, none⟩ (.int .i64 (((readP (ys.take i)).2.2 + (12 + (x.length + 1)) : Nat) : Int))) := (hc.mono fun _ _ e => .inr e).tr (Ch.setCell _ _ _ fun _ => .inl rfl)
  have h0 := h.pos
  have hn := h.new
  refine ⟨w2, hrun, ha, by rw [e]; exact ha.set 2 _, by rw [e]; exact hp.keep (Ch.setCell (S := fun k => k = sb) _ _ _ fun _ => rfl) fun b e => by cases e; exact hmb, h.below.trans (hc2.below h.below.size fun k hk e => by omega), hn, KR_keep h.kr hc2 (fun e => by omega), h0⟩
theorem OI.start {w w1 : World} (hb : Below w.heap.size w w1) (hK : S1.KR w1) (h0 : 0 < w.heap.size) (d k : Nat) (t : Bool) (ys : List (List UInt8)) :
    OI w ((w1.alloc (.map #[] 0)).alloc (.cells #[.pointer (some ⟨d, 0, none⟩), .int .i64 (k : Int), .int .i64 0, .bool t, .string ⟨#[]⟩, .map (some w1.heap.size), .map none, .bool false] 73)) (w1.heap.size + 1) w1.heap.size d k t ys 0 := by
  have hs := hb.size
  have e : (w1.alloc (.map #[] 0)).heap.size = w1.heap.size + 1 := by simp
  have hB : Below w.heap.size w ((w1.alloc (.map #[] 0)).alloc (.cells #[.pointer (some ⟨d, 0, none⟩), .int .i64 (k : Int), .int .i64 0, .bool t, .string ⟨#[]⟩, .map (some w1.heap.size), .map none, .bool false] 73)) := (hb.alloc hs _).alloc (by rw [e]; omega) _
  refine ⟨?_, (Pile.made w1).new ((Below.refl _ _).alloc (Nat.le_refl _) _), hB, ⟨by omega, hs⟩, (hK.alloc _).alloc _, h0⟩
  unfold SAt
  rw [← e, heap_alloc_new]
  rfl
set_option maxRecDepth 100000 in
set_option maxHeartbeats 8000000 in
theorem storeOf_any {w : World} {d : Nat} {a : Option Addr} {c k : Nat} {xs ys cs : List (List UInt8)} {tail : List UInt8} (hK : S1.KR w) (hR : RdT w a xs) (hcap : xs.length ≤ c) (he : xs = ys ++ cs) (hy : ∀ y ∈ ys, Pl y) (hs : Sealed ys) (hc : ∀ x ∈ cs, PlC x) (hlen : xs.length ≤ 100000) (hk : k ≤ 1000000) :
    Calls Tryz.prog 33 #[dp d, conV (.slice a xs.length c) tail k] w fun e w' => ∃ sb mb, e = .returned (dp sb) ∧ OI w w' sb mb d k (decide (0 < cs.length) || decide (tail ≠ [])) ys ys.length := by
  have H1 := Lib.hid (hR.new ((Below.refl _ _).alloc (Nat.le_refl _) (.cells #[.slice a xs.length c, .string (txt tail), .int .i64 (k : Int)] 64)))
  have H0 : Hid (Below w.heap.size w (w.alloc (.cells #[.slice a xs.length c, .string (txt tail), .int .i64 (k : Int)] 64))) := Lib.hid ((Below.refl _ _).alloc (Nat.le_refl _) _)
  have H2 := Lib.hid (alloc_con w a xs.length c tail k)
  have P54 : Hid (Calls Tryz.prog 54 #[.agg #[.slice a xs.length c, .string (txt tail), .int .i64 (k : Int)]] (w.alloc (.cells #[.slice a xs.length c, .string (txt tail), .int .i64 (k : Int)] 64)) fun e w' => e = .returned (.int .i64 (ys.length : Int)) ∧ Below (w.alloc (.cells #[.slice a xs.length c, .string (txt tail), .int .i64 (k : Int)] 64)).heap.size (w.alloc (.cells #[.slice a xs.length c, .string (txt tail), .int .i64 (k : Int)] 64)) w') := Lib.hid (sealed_any (H1.out) he hs hc (by omega))
  have hyl : ys.length ≤ xs.length := by rw [he, List.length_append]; omega
  have hyl' : (ys.length : Int) ≤ (xs.length : Int) := by omega
  have hcap' : (xs.length : Int) ≤ (c : Int) := by omega
  have hyc' : (ys.length : Int) ≤ (c : Int) := by omega
  have hxl' : (xs.length : Int) ≤ 100000 := by omega
  have hkk : (k : Int) ≤ 1000000 := by omega
  have hb1 : decide ((ys.length : Int) < (xs.length : Int)) = decide (0 < cs.length) := by
    rw [he, List.length_append]
    by_cases h : 0 < cs.length
    · rw [decide_eq_true h, decide_eq_true (by omega)]
    · rw [decide_eq_false h, decide_eq_false (by omega)]
  have hb1n : decide (ys.length < xs.length) = decide (0 < cs.length) := by
    rw [he, List.length_append]
    by_cases h : 0 < cs.length
    · rw [decide_eq_true h, decide_eq_true (by omega)]
    · rw [decide_eq_false h, decide_eq_false (by omega)]
  have HYX : Hid (∀ i, i < ys.length → ys.getD i [] = xs.getD i []) := Lib.hid fun i hi => by
    rw [he, List.getD_eq_getElem?_getD, List.getD_eq_getElem?_getD, List.getElem?_append_left hi]
  have HY := Lib.hid hy
  have HR := Lib.hid hR
  have HLX := Lib.hid (And.intro hyl hlen)
  have HK := Lib.hid hK
  have hmm := @run_makeMap Tryz.prog
  clear hR he hs hc hy hK hyl hcap
  have hb2 : (!(txt tail).toList.isEmpty) = decide (tail ≠ []) := by
    rw [ByteArray.toList_eq, data_txt]
    cases tail <;> rfl
  have HB2 := Lib.hid hb2
  clear hb2
  generalize decide (tail ≠ []) = b2 at HB2 ⊢
  generalize decide (0 < cs.length) = b1 at hb1 hb1n ⊢
  obtain ⟨tb, htb⟩ : ∃ tb, (b1 || b2) = tb := ⟨_, rfl⟩
  rw [htb]
  unfold conV dp
  cases b1
  all_goals
    go_enter Tryz.func33, Tryz.ntmps33
    go_wp2_with (go_at_call 54; (with_reducible refine P54.out.mono ?_); rintro e w1 ⟨rfl, hb⟩
                 have hblk : w1.heap[w.heap.size]? = some (.cells #[.slice a xs.length c, .string (txt tail), .int .i64 (k : Int)] 64 (0, 0)) := (hb.block _ (by simp)).trans H2.out
                 have hblk2 : ∀ o o', ((w1.alloc o).alloc o').heap[w.heap.size]? = some (.cells #[.slice a xs.length c, .string (txt tail), .int .i64 (k : Int)] 64 (0, 0)) := fun o o' => (((Below.refl _ _).alloc (Nat.le_refl _) o).trans ((Below.refl _ _).alloc (by simp) o')).block _ (by have := (Array.getElem?_eq_some_iff.1 hblk).1; omega) |>.trans hblk
                 have k0 : ∀ o o', ((w1.alloc o).alloc o').cell? ⟨w.heap.size, 0, none⟩ = some (.slice a xs.length c) := fun o o' => cell_of_row _ _ 0 _ _ _ (hblk2 o o')
                 have k1 : ∀ o o', ((w1.alloc o).alloc o').cell? ⟨w.heap.size, 1, none⟩ = some (.string (txt tail)) := fun o o' => cell_of_row _ _ 1 _ _ _ (hblk2 o o')
                 have k2 := cell_of_row _ _ 2 _ _ _ hblk)
    have hs1 : w.heap.size + 1 ≤ w1.heap.size := by have := hb.size; simpa using this
    have hbw : Below w.heap.size w w1 := H0.out.trans (hb.mono (by simp))
    have HR1 : Hid (RdT w1 a xs) := Lib.hid (H1.out.new hb)
    have hmb : w1.heap.size < w1.heap.size + 1 := Nat.lt_succ_self _
    first
      | (have HI0 := OI.start hbw (HK.out.step hbw) HK.out.pos d k true ys; generalize (w1.alloc (.map #[] 0)).alloc (.cells #[.pointer (some ⟨d, 0, none⟩), .int .i64 (k : Int), .int .i64 0, .bool true, .string ⟨#[]⟩, .map (some w1.heap.size), .map none, .bool false] 73) = W0 at HI0 ⊢; rw [show true = tb from htb] at HI0)
      | (have HI0 := OI.start hbw (HK.out.step hbw) HK.out.pos d k (!(txt tail).toList.isEmpty) ys; generalize (w1.alloc (.map #[] 0)).alloc (.cells #[.pointer (some ⟨d, 0, none⟩), .int .i64 (k : Int), .int .i64 0, .bool !(txt tail).toList.isEmpty, .string ⟨#[]⟩, .map (some w1.heap.size), .map none, .bool false] 73) = W0 at HI0 ⊢; rw [HB2.out, show b2 = tb from htb] at HI0)
    have HI1 := Lib.hid HI0
    clear HI0 htb hb hbw hs1 hblk hblk2 k0 k1 k2 hb1 hb1n HB2 P54 hmm H0 H1 H2 HK HR1
    generalize hmbv : w1.heap.size = mb at HI1 ⊢
    clear hmbv
    go_loopw [8, 9, 10, 11, 40] (fun _ _ _ _ i wr => ∃ ii : Nat, i = .int .i64 (ii : Int) ∧ ii ≤ ys.length ∧ Hid (OI w wr (mb + 1) mb d k tb ys ii)) (fun _ _ _ _ i _ => ys.length - (intOf i).toNat)
    case atStart => exact ⟨0, rfl, Nat.zero_le _, HI1⟩
    case round =>
      obtain ⟨ii, rfl, hi, HI⟩ := hrel
      clear HI1
      by_cases hlt : ii < ys.length
      · have hlt' : (ii : Int) < (ys.length : Int) := by omega
        have hi0 : (0 : Int) ≤ (ii : Int) := by omega
        obtain ⟨b, off, rfl, hc1⟩ := (HR.out.new HI.out.below) ii (Nat.lt_of_lt_of_le hlt HLX.out.1)
        rw [← HYX.out ii hlt, F5.getD_at hlt] at hc1
        obtain ⟨t, ht, e | e⟩ := HY.out _ (List.getElem_mem hlt)
        · rw [e] at hc1
          have HE := Lib.hid (HI.out.chunk hlt e (by have := HLX.out; omega))
          have P1 := Lib.hid (fun W => Tryz.strings_CutPrefix (txt (99 :: t)) ⟨#[114]⟩ W)
          have P2 := Lib.hid (fun W => Tryz.strings_TrimPrefix (txt (99 :: t)) ⟨#[99]⟩ W)
          have P3 : Hid (∀ W, S1.KR W → Calls Tryz.prog 34 #[.string (txt t)] W fun e w' => e = .returned (.string (txt (sha t))) ∧ Below W.heap.size W w') := Lib.hid fun W hW => S1.print_any (txt t) (by rw [txt_size]; omega) W hW
          have e1 : (⟨(Lib.trimPrefix (txt (99 :: t)).data.toList (⟨#[114]⟩ : ByteArray).data.toList).toArray⟩ : ByteArray) = txt (99 :: t) := rfl
          have e2 : Lib.hasPrefix (txt (99 :: t)).data.toList (⟨#[114]⟩ : ByteArray).data.toList = false := rfl
          have e3 : (⟨(Lib.trimPrefix (txt (99 :: t)).data.toList (⟨#[99]⟩ : ByteArray).data.toList).toArray⟩ : ByteArray) = txt t := rfl
          rw [e1, e2] at P1
          rw [e3] at P2
          have f2 := HI.out.at_.fr 2
          have c2 := HI.out.at_.c2
          have c5 : wr.cell? ⟨mb + 1, 5, none⟩ = some (.map (some mb)) := HI.out.at_.c5
          have hzt : (txt (99 :: t)).size = t.length + 1 := txt_size _
          have hr := readP_live (ys.take ii) ([], [], 0) fun y h => HY.out y (List.mem_of_mem_take h)
          have hr2 : (readP (ys.take ii)).2.2 ≤ 200000000 := by
            rw [List.length_take] at hr
            unfold readP
            have := HLX.out
            simp only at hr
            omega
          obtain ⟨q, hq⟩ : ∃ q, (readP (ys.take ii)).2.2 = q := ⟨_, rfl⟩
          have PU : Hid (∀ W, Below wr.heap.size wr W → W.cell? ⟨mb + 1, 5, none⟩ = some (.map (some mb)) ∧ ∃ w2, (Instr.mapUpdate 71 (.map (some mb)) (.string (txt (sha t))) (.agg #[.string (txt t)])).run Tryz.prog W = .ok () w2 ∧ w2.cell? ⟨mb + 1, 2, none⟩ = some (.int .i64 (q : Int)) ∧ w2.frozen? ⟨mb + 1, 2, none⟩ = false ∧ OI w (w2.setCell ⟨mb + 1, 2, none⟩ (.int .i64 ((q : Int) + (12 + ((t.length : Int) + 1))))) (mb + 1) mb d k tb ys (ii + 1)) := Lib.hid fun W hW => by
            have h1 := HI.out.frame hW
            obtain ⟨w2, hrun, hs2, ho2⟩ := h1.chunk hlt e (by have := HLX.out; omega)
            rw [hq] at hs2 ho2
            have ec : (((q + (12 + (t.length + 1)) : Nat)) : Int) = (q : Int) + (12 + ((t.length : Int) + 1)) := by omega
            rw [ec] at ho2
            exact ⟨h1.at_.c5, w2, hrun, hs2.c2, hs2.fr 2, ho2⟩
          rw [hq] at hr2
          have hq' : (q : Int) ≤ 200000000 := by omega
          have ht' : (t.length : Int) ≤ 1000 := by omega
          have HKR := Lib.hid (show S1.KR wr.drew from HI.out.kr)
          have hsb := HI.out.at_.lt
          clear e e1 e2 e3 hr hr2 HE hq c2 f2
          generalize txt (99 :: t) = tt at hc1 P1 P2 hzt
          generalize txt (sha t) = ts at P3 PU
          generalize txt t = tx at P2 P3 PU
          have hw1 : IntKind.i64.wrap (12 + ((t.length : Int) + 1)) = 12 + ((t.length : Int) + 1) := IntWalk.i64_in _ (by omega)
          have hw2 : IntKind.i64.wrap ((q : Int) + (12 + ((t.length : Int) + 1))) = (q : Int) + (12 + ((t.length : Int) + 1)) := IntWalk.i64_in _ (by omega)
          go_wp2_with (first
            | (go_at_call 55; (with_reducible refine (P1.out _).mono ?_); rintro e w1 ⟨rfl, rfl⟩)
            | (go_at_call 56; (with_reducible refine (P2.out _).mono ?_); rintro e w1 ⟨rfl, rfl⟩))
          go_region_with (go_at_call 34; (with_reducible refine (P3.out _ HKR.out).mono ?_); rintro e w3 ⟨rfl, hb3⟩; obtain ⟨c5b, w4, hrun, c2b, f2b, hOI⟩ := PU.out w3 (D4.undrew hb3); clear hb3)
          all_goals clear hrun c5b
          all_goals go_wp2
          all_goals
            go_roundw
            case rel => exact ⟨ii + 1, by go_num, by omega, Lib.hid hOI⟩
            case measure => simp [intOf]; omega
        · rw [e] at hc1
          have HE := Lib.hid (HI.out.root hlt e)
          have P1 := Lib.hid (fun W => Tryz.strings_CutPrefix (txt (114 :: t)) ⟨#[114]⟩ W)
          have e1 : (⟨(Lib.trimPrefix (txt (114 :: t)).data.toList (⟨#[114]⟩ : ByteArray).data.toList).toArray⟩ : ByteArray) = txt t := rfl
          have e2 : Lib.hasPrefix (txt (114 :: t)).data.toList (⟨#[114]⟩ : ByteArray).data.toList = true := rfl
          rw [e1, e2] at P1
          have f4 := HI.out.at_.fr 4
          have c4 := HI.out.at_.c4
          clear e e1 e2 ht
          generalize txt (114 :: t) = tt at hc1 P1
          go_wp2_with (go_at_call 55; (with_reducible refine (P1.out _).mono ?_); rintro e w1 ⟨rfl, rfl⟩)
          go_roundw
          case rel => exact ⟨ii + 1, by go_num, by omega, HE⟩
          case measure => simp [intOf]; omega
      · have hlt' : (ys.length : Int) ≤ (ii : Int) := by omega
        have e : ii = ys.length := by omega
        subst e
        go_wp2
        go_ret
        exact ⟨mb + 1, mb, rfl, HI.out⟩
end Go.Proofs.YtogihpofkjpokaaGreatDoor
namespace Go.Proofs.YtogihpofkjpokaaGreatDoor
open Go Go.RowKit Go.Maps
open D4 (put Asc Lg Dk dp More)
open F5 (txt txt_size data_txt frameL flat OwT RdT)

/-- What readFrames hands on. -/
structure RF (w : World) (a : Option Addr) (c : Nat) (xs : List (List UInt8)) (tail D : List UInt8) : Prop where
  rd : RdT w a xs
  low : ∀ ad, a = some ad → ad.block < w.heap.size
  cap : xs.length ≤ c
  pl : ∀ x ∈ xs, Pl x
  cut : CutOff tail
  eq : D = flat xs ++ tail
  len : xs.length ≤ 100000
theorem RF.new {w w' : World} {a : Option Addr} {c : Nat} {xs : List (List UInt8)} {tail D : List UInt8} (h : RF w a c xs tail D) (hb : Below w.heap.size w w') : RF w' a c xs tail D :=
  ⟨h.rd.new hb, fun ad e => Nat.lt_of_lt_of_le (h.low ad e) hb.size, h.cap, h.pl, h.cut, h.eq, h.len⟩
theorem OwT.rd_cap {w : World} {base : Nat} {v : Value} {xs : List (List UInt8)} (h : OwT w base v xs) : ∃ a c, v = .slice a xs.length c ∧ xs.length ≤ c := by
  rcases h.2 with ⟨hv, h0⟩ | ⟨g, cap, cur, hv, hb, hg, hnc, _⟩
  · exact ⟨none, 0, by rw [hv, h0], by omega⟩
  · exact ⟨_, cap, hv, hnc⟩
theorem readF_any {w : World} {d : Nat} {l : Lg} {G : Nat → Prop} {o : Option (List UInt8 × Nat)} (h : Dk w d l G) (hd : l.down = false) (n : ByteArray) (hn : D4.nameB n.data.toList = true) (ho : D4.look n.data.toList l.fs = o) (hp : Pre (dat o)) (hD : (dat o).length ≤ 100000) :
    Calls Tryz.prog 31 #[.pointer (some ⟨d, 0, none⟩), .string n] w fun e w' => ∃ a c xs tail, e = .returned (.tuple #[.agg #[.slice a xs.length c, .string (txt tail), .int .i64 ((dat o).length : Int)], .int .i64 0]) ∧ RF w' a c xs tail (dat o) ∧ Below w.heap.size w w' := by
  subst ho
  refine (readFrames_any h hd n hn hp hD).mono ?_
  rintro e w' ⟨v, xs, tail, rfl, how, hx, ht, he, hb⟩
  obtain ⟨a, c, hv, hR, _, hA⟩ := how.rd
  obtain ⟨a2, c2, hv2, hc⟩ := OwT.rd_cap how
  rw [hv] at hv2
  cases hv2
  subst hv
  have hfl := F5.flat_count xs
  have hle := congrArg List.length he
  rw [List.length_append] at hle
  exact ⟨a, c, xs, tail, rfl, ⟨hR, fun ad e => (hA ad e).2, hc, hx, ht, he, by omega⟩, hb⟩
theorem RF.known {w : World} {a : Option Addr} {c k : Nat} {xs : List (List UInt8)} {tail D : List UInt8} (h : RF w a c xs tail D) :
    Calls Tryz.prog 32 #[.agg #[.slice a xs.length c, .string (txt tail), .int .i64 (k : Int)]] w fun e w' => e = .returned (.bool true) ∧ Below w.heap.size w w' := known_any h.rd h.low h.pl h.cut (by have := h.len; omega)
/-- storeOf, of a log. -/
theorem RF.store {w : World} {d : Nat} {a : Option Addr} {c : Nat} {xs : List (List UInt8)} {tail root : List UInt8} {lg : Option (List UInt8 × Nat)} {kept : Tx} {r : Nat} {t : Bool} (h : RF w a c xs tail (dat lg)) (hL : LogAt (dat lg) root kept r t) (hK : S1.KR w) (hk : (dat lg).length ≤ 1000000) :
    Calls Tryz.prog 33 #[.pointer (some ⟨d, 0, none⟩), .agg #[.slice a xs.length c, .string (txt tail), .int .i64 ((dat lg).length : Int)]] w fun e w' => ∃ sb mb, e = .returned (.pointer (some ⟨sb, 0, none⟩)) ∧ SAt w' sb ((opened lg r t root kept).ss d (some mb) none) ∧ Pile w' (some mb) kept ∧ Below w.heap.size w w' ∧ w.heap.size ≤ sb ∧ w.heap.size ≤ mb ∧ S1.KR w' := by
  obtain ⟨ys, cs, c', hy, hs, hc, hcc, e, hr, ht⟩ := hL
  have hx2 : ∀ x ∈ ys ++ cs, Pl x := fun x hx => by
    rcases List.mem_append.1 hx with hx | hx
    · exact hy x hx
    · exact (hc x hx).pl
  have e2 := h.eq
  have hS := scanned_of h.pl h.cut
  rw [← e2, e] at hS
  have hu := hS.unique (scanned_of hx2 hcc)
  rw [e, hu] at e2
  have ht2 := List.append_cancel_left e2
  subst ht2
  refine (storeOf_any (d := d) (k := (dat lg).length) (tail := c') hK h.rd h.cap hu hy hs hc h.len hk).mono ?_
  rintro e w' ⟨sb, mb, rfl, ho⟩
  have h1 := ho.at_
  have h2 := ho.pile
  rw [List.take_length, hr, ← ht] at h1
  rw [List.take_length, hr] at h2
  exact ⟨sb, mb, rfl, h1, h2, ho.below, ho.new.1, ho.new.2, ho.kr⟩
theorem st_open {w w' : World} {d sb mb : Nat} {l : Lg} {G : Nat → Prop} {lg : Option (List UInt8 × Nat)} {root : List UInt8} {kept : Tx} {r : Nat} {t : Bool} (hD : Dk w d l G) (hg : ∀ k, G k → k < w.heap.size) (h0 : ¬ G 0) (hK : S1.KR w) (hb : Below w.heap.size w w')
    (h1 : SAt w' sb ((opened lg r t root kept).ss d (some mb) none)) (h2 : Pile w' (some mb) kept) (h3 : w.heap.size ≤ sb) (h4 : w.heap.size ≤ mb) : Str w' sb d (opened lg r t root kept) l (More G w w') := by
  have hp := hK.pos
  refine ⟨some mb, none, G, ⟨h1, hD.new hb, fun e => by have := hg _ e; omega⟩, h2, Pile.nil _, by simp, fun b e hG => ?_, (fun b e => by cases e), (fun b e => by cases e), ?_, hK.step hb, ?_⟩
  · cases e; have := hg _ hG; omega
  · rintro k (rfl | e | e | e)
    · exact .inr ⟨h3, h1.lt⟩
    · cases e; exact .inr ⟨h4, h2.lt rfl⟩
    · cases e
    · exact .inl e
  · rintro (e | e)
    · exact h0 e
    · omega
set_option maxRecDepth 100000 in
set_option maxHeartbeats 8000000 in
/-- Open, on a disk that is up. -/
theorem open_any {w : World} {d : Nat} {l : Lg} {G : Nat → Prop} {lg sp : Option (List UInt8 × Nat)} {root : List UInt8} {kept : Tx} {r : Nat} {t : Bool} (hD : Dk w d l G) (hl : l.down = false) (hk : DK l lg sp) (hL : LogAt (dat lg) root kept r t) (hP : Pre (dat sp)) (h1 : (dat lg).length ≤ 100000) (h2 : (dat sp).length ≤ 100000) (hK : S1.KR w) (hg : ∀ k, G k → k < w.heap.size) (h0 : ¬ G 0) :
    Calls Tryz.prog 10 #[dp d] w fun e w' => ∃ sb, e = .returned (.tuple #[.pointer (some ⟨sb, 0, none⟩), .int .i64 0]) ∧ w.heap.size ≤ sb ∧ Str w' sb d (opened lg r t root kept) l (More G w w') ∧ Below w.heap.size w w' := by
  have PS : Hid (∀ W, Below w.heap.size w W → Calls Tryz.prog 31 #[.pointer (some ⟨d, 0, none⟩), .string ⟨#[99, 104, 117, 110, 107, 115, 46, 110, 101, 119]⟩] W fun e w' => ∃ a c xs tail, e = .returned (.tuple #[.agg #[.slice a xs.length c, .string (txt tail), .int .i64 ((dat sp).length : Int)], .int .i64 0]) ∧ RF w' a c xs tail (dat sp) ∧ Below W.heap.size W w') := Lib.hid fun W hW => readF_any (hD.new hW) hl _ name_sp hk.sp hP h2
  have PL : Hid (∀ W, Below w.heap.size w W → Calls Tryz.prog 31 #[.pointer (some ⟨d, 0, none⟩), .string ⟨#[99, 104, 117, 110, 107, 115, 46, 108, 111, 103]⟩] W fun e w' => ∃ a c xs tail, e = .returned (.tuple #[.agg #[.slice a xs.length c, .string (txt tail), .int .i64 ((dat lg).length : Int)], .int .i64 0]) ∧ RF w' a c xs tail (dat lg) ∧ Below W.heap.size W w') := Lib.hid fun W hW => readF_any (hD.new hW) hl _ name_log hk.lg hL.pre h1
  have PO : Hid (∀ W a c xs tail, Below w.heap.size w W → RF W a c xs tail (dat lg) → Calls Tryz.prog 33 #[.pointer (some ⟨d, 0, none⟩), .agg #[.slice a xs.length c, .string (txt tail), .int .i64 ((dat lg).length : Int)]] W fun e w' => ∃ sb, e = .returned (.pointer (some ⟨sb, 0, none⟩)) ∧ w.heap.size ≤ sb ∧ Str w' sb d (opened lg r t root kept) l (More G w w') ∧ Below w.heap.size w w') := Lib.hid fun W a c xs tail hW hF => by
    refine (hF.store (d := d) hL (hK.step hW) (by omega)).mono ?_
    rintro e w' ⟨sb, mb, rfl, hA, hp, hb, h3, h4, _⟩
    have hs := hW.size
    have hB : Below w.heap.size w w' := hW.trans (hb.mono hs)
    exact ⟨sb, rfl, by omega, st_open hD hg h0 hK hB hA hp (by omega) (by omega), hB⟩
  obtain ⟨s, hA, hs, hF⟩ := hD
  have P29 := Lib.hid (D4.down_any hA)
  rw [show s.down = false from by rw [← hl, ← hs]; rfl] at P29
  have hfs : s.fs.map (·.1) = l.fs.map (·.1) := by rw [← hs]; show _ = (D4.on D4.F.lg s.fs).map (·.1); unfold D4.on; simp
  have hlen : s.fs.length ≤ 2 := by have := congrArg List.length hfs; rw [List.length_map, List.length_map] at this; have := hk.len; omega
  have P30 := Lib.hid (D4.names_any hA (by omega))
  rw [hfs] at P30
  have HNL : Hid ((l.fs.map (·.1)).length = s.fs.length) := Lib.hid (by rw [← hfs, List.length_map])
  have HN : Hid (∀ i, i < s.fs.length → (l.fs.map (·.1)).getD i [] = logN ∨ (l.fs.map (·.1)).getD i [] = spN) := Lib.hid fun i hi => by
    have hi2 : i < l.fs.length := by have := congrArg List.length hfs; rw [List.length_map, List.length_map] at this; omega
    rw [List.getD_eq_getElem?_getD, List.getElem?_map, List.getElem?_eq_getElem hi2]
    exact hk.names _ (List.getElem_mem hi2)
  clear hA hs hF hfs hk hL hP hK hg h0 hl
  generalize s.fs.length = n at hlen P30 HN HNL
  generalize (dat lg).length = nl at PL PO h1
  generalize (dat sp).length = ns at PS h2
  have hn' : (n : Int) ≤ 2 := by omega
  unfold dp at P29 P30 ⊢
  go_enter Tryz.func10, Tryz.ntmps10
  go_wp2_with (first
    | (go_at_call 29; (with_reducible refine P29.out.mono ?_); rintro e w1 ⟨rfl, hw1⟩; subst w1)
    | (go_at_call 30; (with_reducible refine P30.out.mono ?_); rintro e w2 ⟨a, c, rfl, hR, ha, hb⟩))
  have HR := Lib.hid (And.intro hR hb)
  clear hR ha hb
  go_loopw [5, 14] (fun _ i wr => ∃ ii : Nat, i = .int .i64 (ii : Int) ∧ ii ≤ n ∧ wr = w2) (fun _ i _ => n - (intOf i).toNat)
  case atStart => exact ⟨0, rfl, Nat.zero_le _, rfl⟩
  case round =>
    obtain ⟨ii, rfl, hi, rfl⟩ := hrel
    by_cases hlt : ii < n
    · have hlt' : (ii : Int) < (n : Int) := by omega
      have hi0 : (0 : Int) ≤ (ii : Int) := by omega
      obtain ⟨b, off, rfl, hc1⟩ := HR.out.1 ii (by rw [HNL.out]; exact hlt)
      rcases HN.out ii hlt with e | e
      · rw [e] at hc1
        have hc2 : wr.cell? ⟨b, off + ii, none⟩ = some (.string ⟨#[99, 104, 117, 110, 107, 115, 46, 108, 111, 103]⟩) := hc1
        clear hc1 e
        go_wp2
        go_roundw
        case rel => exact ⟨ii + 1, by go_num, by omega, trivial⟩
        case measure => simp [intOf]; omega
      · rw [e] at hc1
        have hc2 : wr.cell? ⟨b, off + ii, none⟩ = some (.string ⟨#[99, 104, 117, 110, 107, 115, 46, 110, 101, 119]⟩) := hc1
        clear hc1 e
        go_wp2
        go_roundw
        case rel => exact ⟨ii + 1, by go_num, by omega, trivial⟩
        case measure => simp [intOf]; omega
    · have hlt' : (n : Int) ≤ (ii : Int) := by omega
      have hB2 := Lib.hid HR.out.2
      go_wp2_with (go_at_call 31; (with_reducible refine (PS.out _ hB2.out).mono ?_); rintro e w3 ⟨a1, c1, xs1, tl1, rfl, hF1, hb1⟩; have HF1 := Lib.hid (And.intro hF1 hb1); clear hF1 hb1)
      have HB3 : Hid (Below w.heap.size w (w3.alloc (.cells #[.slice a1 xs1.length c1, .string (txt tl1), .int .i64 (ns : Int)] 64))) := Lib.hid ((hB2.out.trans (HF1.out.2.mono hB2.out.size)).alloc (Nat.le_trans hB2.out.size HF1.out.2.size) _)
      have HK0 : Hid (∀ W, Below (w3.alloc (.cells #[.slice a1 xs1.length c1, .string (txt tl1), .int .i64 (ns : Int)] 64)).heap.size (w3.alloc (.cells #[.slice a1 xs1.length c1, .string (txt tl1), .int .i64 (ns : Int)] 64)) W → (∀ o, (W.alloc o).cell? ⟨w3.heap.size, 0, none⟩ = some (.slice a1 xs1.length c1)) ∧ (∀ o, (W.alloc o).cell? ⟨w3.heap.size, 1, none⟩ = some (.string (txt tl1))) ∧ (∀ o, (W.alloc o).cell? ⟨w3.heap.size, 2, none⟩ = some (.int .i64 (ns : Int)))) := Lib.hid fun W hW => by
        have hblk : W.heap[w3.heap.size]? = some (.cells #[.slice a1 xs1.length c1, .string (txt tl1), .int .i64 (ns : Int)] 64 (0, 0)) := (hW.block _ (by simp)).trans (heap_alloc_new _ _)
        have hlt3 : w3.heap.size < W.heap.size := (Array.getElem?_eq_some_iff.1 hblk).1
        have hb6 : ∀ o, (W.alloc o).heap[w3.heap.size]? = some (.cells #[.slice a1 xs1.length c1, .string (txt tl1), .int .i64 (ns : Int)] 64 (0, 0)) := fun o => (Below.heap_alloc _ _ _ hlt3).trans hblk
        exact ⟨fun o => cell_of_row _ _ 0 _ _ _ (hb6 o), fun o => cell_of_row _ _ 1 _ _ _ (hb6 o), fun o => cell_of_row _ _ 2 _ _ _ (hb6 o)⟩
      go_wp2_with (go_at_call 31; (with_reducible refine (PL.out _ HB3.out).mono ?_); rintro e w5 ⟨a2, c2, xs2, tl2, rfl, hF2, hb5⟩; obtain ⟨k0, k1, k2⟩ := HK0.out _ hb5; have HF2 := Lib.hid (And.intro hF2 hb5); clear hF2 hb5)
      have HB35 : Below w3.heap.size w3 w5 := ((Below.refl _ _).alloc (Nat.le_refl _) _).trans (HF2.out.2.mono (by simp))
      have K1 : Hid (∀ o, Calls Tryz.prog 32 #[.agg #[.slice a1 xs1.length c1, .string (txt tl1), .int .i64 (ns : Int)]] (w5.alloc o) fun e w' => e = .returned (.bool true) ∧ Below (w5.alloc o).heap.size (w5.alloc o) w') := Lib.hid fun o => ((HF1.out.1.new HB35).new ((Below.refl _ _).alloc (Nat.le_refl _) o)).known
      have K2 : Hid (∀ W, Below w5.heap.size w5 W → Calls Tryz.prog 32 #[.agg #[.slice a2 xs2.length c2, .string (txt tl2), .int .i64 (nl : Int)]] W fun e w' => e = .returned (.bool true) ∧ Below W.heap.size W w') := Lib.hid fun W hW => (HF2.out.1.new hW).known
      have HB5 : Hid (Below w.heap.size w w5) := Lib.hid (HB3.out.trans (HF2.out.2.mono HB3.out.size))
      have K3 : Hid (∀ W, Below w5.heap.size w5 W → Calls Tryz.prog 33 #[.pointer (some ⟨d, 0, none⟩), .agg #[.slice a2 xs2.length c2, .string (txt tl2), .int .i64 (nl : Int)]] W fun e w' => ∃ sb, e = .returned (.pointer (some ⟨sb, 0, none⟩)) ∧ w.heap.size ≤ sb ∧ Str w' sb d (opened lg r t root kept) l (More G w w') ∧ Below w.heap.size w w') := Lib.hid fun W hW => PO.out W a2 c2 xs2 tl2 (HB5.out.trans (hW.mono HB5.out.size)) (HF2.out.1.new hW)
      clear HB35
      have HO : Hid (∀ W, Below (w5.alloc (.cells #[.slice a2 xs2.length c2, .string (txt tl2), .int .i64 (nl : Int)] 64)).heap.size (w5.alloc (.cells #[.slice a2 xs2.length c2, .string (txt tl2), .int .i64 (nl : Int)] 64)) W → Below w5.heap.size w5 W ∧ W.cell? ⟨w5.heap.size, 0, none⟩ = some (.slice a2 xs2.length c2) ∧ W.cell? ⟨w5.heap.size, 1, none⟩ = some (.string (txt tl2)) ∧ W.cell? ⟨w5.heap.size, 2, none⟩ = some (.int .i64 (nl : Int))) := Lib.hid fun W hW => by
        have hr : W.heap[w5.heap.size]? = some (.cells #[.slice a2 xs2.length c2, .string (txt tl2), .int .i64 (nl : Int)] 64 (0, 0)) := (hW.block _ (by simp)).trans (heap_alloc_new _ _)
        exact ⟨((Below.refl _ _).alloc (Nat.le_refl _) _).trans (hW.mono (by simp)), cell_of_row _ _ 0 _ _ _ hr, cell_of_row _ _ 1 _ _ _ hr, cell_of_row _ _ 2 _ _ _ hr⟩
      go_wp2_with (go_at_call 32; (with_reducible refine (K1.out _).mono ?_); rintro e w7 ⟨rfl, hb7⟩; obtain ⟨hB7, m0, m1, m2⟩ := HO.out _ hb7)
      go_wp2_with (first
        | (go_at_call 32; (with_reducible refine (K2.out _ hB7).mono ?_); rintro e w8 ⟨rfl, hb8⟩; obtain ⟨hB8, n0, n1, n2⟩ := HO.out _ (hb7.trans (hb8.mono hb7.size)))
        | (go_at_call 33; (with_reducible refine (K3.out _ hB8).mono ?_); rintro e w9 ⟨sb, rfl, hsb, hS, hB⟩))
      go_ret2
      exact ⟨sb, rfl, hsb, hS, hB⟩
end Go.Proofs.YtogihpofkjpokaaGreatDoor
