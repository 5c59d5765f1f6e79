/- The walks of the document's Names and Fall. -/
import Derived.Test.YtceejjocimgbmaaRefPut
import Derived.BigRegion
namespace Go.Proofs.Ytceejjocimgbmaa
open Go Go.RowKit Go.Maps
attribute [-go_sem] Builtin.append_

theorem Try.info9 : (Try.prog.info? 9).map (fun i => (i.zero, i.size, i.bytes)) = some (some (.string ByteArray.empty), 1, 16) := by kernel_rfl
/-- A slice of texts that a call made itself. -/
def OwS (w : World) (base : Nat) (v : Value) (xs : List (List UInt8)) : Prop := w.ownsRow base 9 1 v xs.length (xs.map encStr)
theorem OwS.own {w : World} {base : Nat} {v : Value} {xs : List (List UInt8)} (h : OwS w base v xs) (k : Nat) (hk : v.ownBlock = some k) : base ≤ k ∧ k < w.heap.size := by
  rcases h.2 with ⟨hv, _⟩ | ⟨g, cap, cur, hv, hb, hg, _⟩
  · rw [hv] at hk; cases hk
  · rw [hv] at hk; cases hk; exact ⟨hb, (Array.getElem?_eq_some_iff.1 hg).1⟩
theorem OwS.keep {P : Nat → Prop} {w w' : World} {base : Nat} {v : Value} {xs : List (List UInt8)} (h : OwS w base v xs) (hc : Ch P w w') (hs : ∀ k, v.ownBlock = some k → ¬ P k) : OwS w' base v xs := by
  refine ⟨h.1, ?_⟩
  rcases h.2 with h2 | ⟨g, cap, cur, hv, hb, hg, r⟩
  · exact .inl h2
  · have hlt := (Array.getElem?_eq_some_iff.1 hg).1
    exact .inr ⟨g, cap, cur, hv, hb, (hc.block g hlt (hs g (by rw [hv]; rfl))).trans hg, r⟩
theorem OwS.form {w : World} {base : Nat} {v : Value} {xs : List (List UInt8)} (h : OwS w base v xs) : ∃ a c, v = .slice a xs.length c := by
  obtain ⟨a, c, hv, _⟩ := owns_rd h
  exact ⟨a, c, hv⟩
section
variable {w : World} {o : Oper} {a : Act} {Q : Exit → Act → World → Prop}
theorem wpList_name {ops : Array Oper} {rest : List Oper} (hgd : o.guard = none) (s x : Operand) (ho : o.op = .call { callee := .builtin .append, args := #[s, x], argTypes := #[29, 29] })
    (base : Nat) (v : Value) (xs : List (List UInt8)) (hs : a.eval s = v) (hown : OwS w base v xs) (g : Nat) (n : List UInt8)
    (hx : a.eval x = .slice (some ⟨g, 0, none⟩) 1 1) (hrow : w.heap[g]? = some (.cells #[.string (txt n)] 9 (0, 0))) (hlen : xs.length + 1 ≤ 100000000) (hbase : base ≤ w.heap.size)
    (h : ∀ v' w', OwS w' base v' (xs ++ [n]) → Ch (fun j => v.ownBlock = some j) w w' → wpList Try.prog ops Q rest (a.put o.dst v') w') : wpList Try.prog ops Q (o :: rest) a w := by
  obtain ⟨i0, hi, hz0, hz1, hz2⟩ := info_parts Try.info9
  refine wpList_append_own _ hgd s x 29 ho base 9 i0 _ 1 16 Try.underlying29 hi hz0 hz1 hz2 rfl (by decide) v xs.length (xs.map encStr) hs hown ⟨g, 0, none⟩ 1 1 [.string (txt n)] hx (by simp) ?_ ?_ (by unfold maxLen; omega) (by omega) hbase ?_
  · intro j z hj
    rw [add0, cell_of_row _ _ _ _ _ _ hrow]
    simpa using hj
  · intro z hz
    simp only [List.mem_cons, List.not_mem_nil, or_false] at hz
    rw [hz]; rfl
  · intro v' w' h1 h2 _
    refine h v' w' ?_ (Ch.of_grown h2 fun k hk => hk)
    unfold OwS
    rw [List.length_append, List.map_append, show [n].map encStr = [.string (txt n)] from rfl]
    exact h1
end
structure NamI (w wr : World) (d : Nat) (l : Lg) (v g : Value) (xs : List (List UInt8)) : Prop where
  rat : RAt wr d l v
  own : OwS wr w.heap.size g xs
  ch : Ch (fun _ => False) w wr
  dl : d < w.heap.size
  vl : ∀ j, v.ownBlock = some j → j < w.heap.size
section
variable {w wr w1 w2 : World} {d : Nat} {l : Lg} {v g g2 : Value} {xs ys : List (List UInt8)}
theorem NamI.app (h : NamI w wr d l v g xs) (h1 : Ch (fun _ => False) wr w1) (ho : OwS w2 w.heap.size g2 ys) (hc : Ch (fun j => g.ownBlock = some j) w1 w2) : NamI w w2 d l v g2 ys := by
  have hC : Ch (fun j => g.ownBlock = some j) wr w2 := (Ch.mono h1 fun _ _ e => False.elim e).tr hc
  have hge : ∀ j, g.ownBlock = some j → w.heap.size ≤ j := fun j hj => (h.own.own j hj).1
  have hd := h.dl
  exact ⟨h.rat.keep hC (fun e => by have := hge _ e; omega) (fun j hj e => by have := hge _ e; have := h.vl j hj; omega), ho, h.ch.trans hC (fun j hj e => by have := hge _ e; omega), h.dl, h.vl⟩
theorem NamI.o1 (h : NamI w wr d l v g xs) (h1 : Ch (fun _ => False) wr w1) : OwS w1 w.heap.size g xs := h.own.keep h1 fun _ _ => id
end
theorem srow (W : World) (i : Nat) (hi : W.heap.size = i) (n : List UInt8) : (W.alloc (.cells #[.string (txt n)] 9)).heap[i]? = some (.cells #[.string (txt n)] 9 (0, 0)) := by
  subst hi
  exact heap_alloc_new W _
set_option maxRecDepth 100000 in
set_option maxHeartbeats 8000000 in
theorem rnames_any {w : World} {d : Nat} {l : Lg} {v : Value} (h : RAt w d l v) (hlen : l.fs.length ≤ 1000000) :
    Calls Try.prog 34 #[dp d] w fun e w' => ∃ a c, e = .returned (.slice a l.fs.length c) ∧ RdS w' a (l.fs.map (·.1)) ∧ (∀ ad, a = some ad → w.heap.size ≤ ad.block ∧ ad.block < w'.heap.size) ∧ Below w.heap.size w w' := by
  have H0 : Hid (NamI w w d l v (.slice none 0 0) ((l.fs.take 0).map (·.1))) := Lib.hid ⟨h, World.ownsRow_nil _ _ _ _, Ch.refl _ _, lt_of_heap h.blk, fun j hj => (h.own.own j hj).2⟩
  have hlI : (l.fs.length : Int) ≤ 1000000 := by omega
  obtain ⟨a, cap, hvs, -, -⟩ := h.rd
  clear h
  subst hvs
  unfold dp
  go_enter Try.func34, Try.ntmps34
  go_wp2
  go_loopw [3, 4] (fun g i wr => ∃ (ii : Nat), i = .int .i64 (ii : Int) ∧ ii ≤ l.fs.length ∧ Hid (NamI w wr d l (.slice a l.fs.length cap) g ((l.fs.take ii).map (·.1)))) (fun _ i _ => l.fs.length - (intOf i).toNat)
  case atStart => exact ⟨0, rfl, Nat.zero_le _, H0⟩
  case round =>
    clear H0
    obtain ⟨ii, rfl, hi, HI⟩ := hrel
    obtain ⟨zs, hzs⟩ : ∃ zs, (l.fs.take ii).map (·.1) = zs := ⟨_, rfl⟩
    have hzl : zs.length = ii := by rw [← hzs, List.length_map, List.length_take, Nat.min_eq_left hi]
    have HZ := Lib.hid hzs
    rw [hzs] at HI
    clear hzs
    obtain ⟨oa, oc, hg⟩ := HI.out.own.form
    subst hg
    have c0 := HI.out.rat.c0
    have hcs := HI.out.ch.size
    by_cases hlt : ii < l.fs.length
    · have hlt' : (ii : Int) < (l.fs.length : Int) := by omega
      have hi0 : (0 : Int) ≤ (ii : Int) := by omega
      obtain ⟨b, off, rfl, k0, -, -⟩ := HI.out.rat.rdw ii hlt
      have HS : Hid ((l.fs.take (ii + 1)).map (·.1) = zs ++ [(at_ l.fs ii).1]) := Lib.hid (by rw [take_at hlt, List.map_append, HZ.out]; rfl)
      generalize (at_ l.fs ii).1 = pn at *
      have hzl' : zs.length + 1 ≤ 100000000 := by omega
      clear hzl
      go_wp2_with (at_builtin; refine wpList_name rfl (.tmp 14) (.tmp 23) rfl w.heap.size (.slice oa zs.length oc) zs rfl (HI.out.o1 (Ch.alloc _ _ _)) wr.heap.size pn rfl (srow _ _ rfl _) hzl' (by simp; omega) ?_; intro g2 w2 ho2 hc2)
      go_roundw
      case rel => exact ⟨ii + 1, by go_num, by omega, by rw [HS.out]; exact Lib.hid (HI.out.app (Ch.alloc _ _ _) ho2 hc2)⟩
      case measure => simp [intOf]; omega
    · have hlt' : (l.fs.length : Int) ≤ (ii : Int) := by omega
      obtain rfl : ii = l.fs.length := by omega
      rw [List.take_length] at HZ
      have HO := Lib.hid (owns_rd HI.out.own)
      clear hzl
      go_wp2
      go_ret
      obtain ⟨a', c', e, hR, ha⟩ := HO.out
      injection e with e1 e2 e3
      subst e1
      rw [← HZ.out] at hR ⊢
      rw [List.length_map]
      exact ⟨_, _, rfl, hR, ha, HI.out.ch.new⟩

def fallA (keep : List Int) (fs : List Fl) : List Fl := fallN keep fs.length fs
theorem fallA_len (keep : List Int) (fs : List Fl) : (fallA keep fs).length = fs.length := fallN_length _ _ _
theorem fallA_take (keep : List Int) (fs : List Fl) (i : Nat) (h : i < fs.length) : (fallA keep fs).take (i + 1) = (fallA keep fs).take i ++ [((at_ fs i).1, fallP (keep.getD i 0) (at_ fs i).2)] := by
  have h' : i < (fallA keep fs).length := by rw [fallA_len]; exact h
  rw [take_at h', at_get h', at_get h]
  show _ ++ [(fallN keep fs.length fs)[i]] = _
  rw [fallN_get keep fs.length fs i h' h, if_pos h]
theorem kept_zero (len sure : Nat) : kept len sure 0 = sure := by unfold kept; omega
theorem txt_take (l : List UInt8) (k : Nat) : (txt l).extract 0 k = txt (l.take k) := by
  apply ByteArray.ext
  apply Array.ext'
  simp [txt, ByteArray.data_extract]
/-- A box turned in a new block, and a row more. -/
theorem ch_box {wr W : World} (h : Ch (fun _ => False) wr W) {bx : Nat} (hb : wr.heap.size = bx) (x y : Value) (o : Obj) : Ch (fun _ => False) wr (((W.setCell ⟨bx, 1, none⟩ x).setCell ⟨bx, 2, none⟩ y).alloc o) :=
  Ch.trans (S' := fun k => k = bx) h (((Ch.set1 W bx 1 x).tr (Ch.set1 _ bx 2 y)).tr (Ch.alloc _ _ o)) fun j hj e => by omega
theorem ch_boxN {wr W : World} (h : Ch (fun _ => False) wr W) {bx : Nat} (hb : wr.heap.size = bx) (q : Nat) (x y : Value) (o : Obj) : Ch (fun _ => False) wr ((((W.drewN q).setCell ⟨bx, 1, none⟩ x).setCell ⟨bx, 2, none⟩ y).alloc o) := ch_box (h.tr (Ch.drewN _ W q)) hb x y o
theorem set2_size (W : World) (p q : Addr) (x y : Value) : ((W.setCell p x).setCell q y).heap.size = W.heap.size := by simp [World.setCell]

set_option maxRecDepth 100000 in
set_option maxHeartbeats 8000000 in
theorem rfall_any {w : World} {d : Nat} {l : Lg} {v : Value} (h : RAt w d l v) (hlen : l.fs.length ≤ 1000000) (hu : l.used ≤ 1073741824) (hs : ∀ p ∈ l.fs, p.2.2 ≤ p.2.1.length) (ka : Option Addr) (kc : Nat) (keep : List Int) (hK : RdI w ka keep) :
    Calls Try.prog 32 #[dp d, .slice ka keep.length kc] w fun e w' => e = .returned (.tuple #[]) ∧ ∃ v', RAt w' d (l.fall keep) v' ∧ (∀ j, v'.ownBlock = some j → w.heap.size ≤ j) ∧ Ch (fun j => j = d) w w' := by
  have H0 : Hid (DropI w w d l v (.slice none 0 0) ((fallA keep l.fs).take 0)) := Lib.hid ⟨h, OwF.nil _ _, Ch.refl _ _, lt_of_heap h.blk, fun j hj => (h.own.own j hj).2⟩
  have hlI : (l.fs.length : Int) ≤ 1000000 := by omega
  obtain ⟨a, cap, hvs, -, -⟩ := h.rd
  have HK := Lib.hid hK
  have HS := Lib.hid hs
  have HU := Lib.hid hu
  clear h hK hs hu
  subst hvs
  unfold dp
  go_enter Try.func32, Try.ntmps32
  go_wp2
  go_loopw [4, 5] (fun g i wr => ∃ (ii : Nat), i = .int .i64 (ii : Int) ∧ ii ≤ l.fs.length ∧ Hid (DropI w wr d l (.slice a l.fs.length cap) g ((fallA keep l.fs).take ii))) (fun _ i _ => l.fs.length - (intOf i).toNat)
  case atStart => exact ⟨0, rfl, Nat.zero_le _, H0⟩
  case round =>
    clear H0
    obtain ⟨ii, rfl, hi, HI⟩ := hrel
    obtain ⟨zs, hzs⟩ : ∃ zs, (fallA keep l.fs).take ii = zs := ⟨_, rfl⟩
    have hzl : zs.length = ii := by rw [← hzs, List.length_take, fallA_len, Nat.min_eq_left hi]
    have HZ := Lib.hid hzs
    rw [hzs] at HI
    clear hzs
    obtain ⟨oa, oc, hg⟩ := HI.out.own.form
    subst hg
    have c0 := HI.out.rat.c0
    have hcs := HI.out.ch.size
    by_cases hlt : ii < l.fs.length
    · have hlt' : (ii : Int) < (l.fs.length : Int) := by omega
      have hi0 : (0 : Int) ≤ (ii : Int) := by omega
      obtain ⟨b, off, rfl, k0, k1, k2⟩ := HI.out.rat.rdw ii hlt
      have hse := HS.out (at_ l.fs ii) (by rw [at_get hlt]; exact List.getElem_mem hlt)
      have hue : (at_ l.fs ii).2.1.length ≤ 1073741824 := by
        have h1 := usedN_take l.fs (ii + 1)
        rw [take_at hlt, usedN_snoc] at h1
        have h2 : usedN l.fs ≤ 1073741824 := HU.out
        omega
      have HT := Lib.hid (fallA_take keep l.fs ii hlt)
      rw [HZ.out] at HT
      generalize at_ l.fs ii = p at *
      obtain ⟨pn, pt, pk⟩ := p
      simp only at k0 k1 k2 hse hue HT
      have hki := kept_int (keep.getD ii 0) hse
      have hkl := kept_le (keep.getD ii 0) hse
      have HT2 : Hid (fallP (keep.getD ii 0) (pt, pk) = (pt.take (kept pt.length pk (keep.getD ii 0)), kept pt.length pk (keep.getD ii 0))) := Lib.hid rfl
      have htt := txt_take pt (kept pt.length pk (keep.getD ii 0))
      have hts := txt_size pt
      have hts2 : (txt (pt.take (kept pt.length pk (keep.getD ii 0)))).size = kept pt.length pk (keep.getD ii 0) := by rw [txt_size, List.length_take]; omega
      have hsl : ∀ W : World, (Instr.slice 9 (.string (txt pt)) none (some (.int .i64 (kept pt.length pk (keep.getD ii 0) : Int))) none).run Try.prog W = .ok (.string (txt (pt.take (kept pt.length pk (keep.getD ii 0))))) W := by
        intro W
        rw [run_slice_string_h (P := Try.prog) W 9 (txt pt) Try.underlying9 .i64 _ (by omega) (by rw [txt_size]; omega), Int.toNat_natCast, htt]
      have hzl' : zs.length + 1 ≤ 100000000 := by omega
      have hue' : ((txt pt).size : Int) ≤ 1073741824 := by rw [txt_size]; omega
      have hse' : (pk : Int) ≤ ((txt pt).size : Int) := by rw [txt_size]; omega
      rw [← hts] at hki hkl
      rw [show kept pt.length pk (keep.getD ii 0) = kept (txt pt).size pk (keep.getD ii 0) by rw [hts]] at *
      have hkI : (kept (txt pt).size pk (keep.getD ii 0) : Int) ≤ 1073741824 := by omega
      clear htt hts hzl hue hse hkl HZ
      by_cases hlk : ii < keep.length
      · have hlk' : (ii : Int) < (keep.length : Int) := by omega
        obtain ⟨kb, koff, rfl, kk⟩ := HK.out ii hlk
        have kk' : wr.cell? ⟨kb, koff + ii, none⟩ = some (.int .i64 (keep.getD ii 0)) := HI.out.ch.cell kk id
        clear kk
        generalize keep.getD ii 0 = kv at *
        generalize hKK : kept (txt pt).size pk kv = K at *
        generalize hPT : txt (pt.take K) = pt2 at *
        generalize txt pt = pt1 at *
        have hw1 : IntKind.i64.wrap ((pt1.size : Int) - (pk : Int)) = (pt1.size : Int) - (pk : Int) := by simp [IntKind.wrap, IntKind.bits, IntKind.signed]; omega
        go_wp2
        have hB : (wr.alloc (.cells #[.string (txt pn), .string pt1, .int .i64 (pk : Int)] 74)).heap[wr.heap.size]? = some (.cells #[.string (txt pn), .string pt1, .int .i64 (pk : Int)] 74 (0, 0)) := heap_alloc_new _ _
        have HW := Lib.hid (And.intro (Ch.alloc (fun _ => False) wr (.cells #[.string (txt pn), .string pt1, .int .i64 (pk : Int)] 74)) hB)
        have d0 := HW.out.1.cell kk' id
        generalize wr.alloc (.cells #[.string (txt pn), .string pt1, .int .i64 (pk : Int)] 74) = W at HW d0 hB ⊢
        have e0 : W.cell? ⟨wr.heap.size, 0, none⟩ = some (.string (txt pn)) := cell_of_row _ _ _ _ _ _ hB
        have e1 : W.cell? ⟨wr.heap.size, 1, none⟩ = some (.string pt1) := cell_of_row _ _ _ _ _ _ hB
        have e2 : W.cell? ⟨wr.heap.size, 2, none⟩ = some (.int .i64 (pk : Int)) := cell_of_row _ _ _ _ _ _ hB
        have g1 : W.frozen? ⟨wr.heap.size, 1, none⟩ = false := frozen_of_row _ _ _ _ _ hB
        have g2 : W.frozen? ⟨wr.heap.size, 2, none⟩ = false := frozen_of_row _ _ _ _ _ hB
        generalize hbx : wr.heap.size = bx at *
        clear hB k0 k1 k2 kk' c0
        go_quiet (fail)
        have hWs : bx ≤ W.heap.size := Nat.le_of_lt (lt_of_heap HW.out.2)
        go_wp2_with (at_builtin; refine wpList_file rfl (.tmp 52) (.tmp 54) rfl w.heap.size (.slice oa zs.length oc) zs rfl (HI.out.o1 (ch_boxN HW.out.1 hbx _ _ _ _)) W.heap.size (txt pn) pt2 K rfl (frow _ _ (set2_size _ _ _ _ _) _ _ _) hzl' (by simp [World.setCell]; omega) ?_; intro g2 w2 ho2 hc2)
        go_roundw
        case rel => exact ⟨ii + 1, by go_num, by omega, by rw [HT.out]; exact Lib.hid (HI.out.app (ch_boxN HW.out.1 hbx _ _ _ _) (by rw [HT2.out, ← data_txt (pt.take K), hPT]; exact ho2) hc2)⟩
        case measure => simp [intOf]; omega
      · have hlk' : (keep.length : Int) ≤ (ii : Int) := by omega
        have hgd : keep.getD ii 0 = 0 := by rw [List.getD_eq_getElem?_getD, List.getElem?_eq_none (by omega)]; rfl
        rw [hgd, kept_zero] at hsl hts2 HT2 hkI
        rw [hgd] at HT
        clear hgd hki
        generalize hPT : txt (pt.take pk) = pt2 at *
        generalize txt pt = pt1 at *
        go_wp2_with (at_builtin; refine wpList_file rfl (.tmp 52) (.tmp 54) rfl w.heap.size (.slice oa zs.length oc) zs rfl (HI.out.o1 ((Ch.alloc _ _ _).tr (Ch.alloc _ _ _))) (wr.heap.size + 1) (txt pn) pt2 pk rfl (frow _ _ (by simp) _ _ _) hzl' (by simp; omega) ?_; intro g2 w2 ho2 hc2)
        go_roundw
        case rel => exact ⟨ii + 1, by go_num, by omega, by rw [HT.out]; exact Lib.hid (HI.out.app ((Ch.alloc _ _ _).tr (Ch.alloc _ _ _)) (by rw [HT2.out, ← data_txt (pt.take pk), hPT]; exact ho2) hc2)⟩
        case measure => simp [intOf]; omega
    · have hlt' : (l.fs.length : Int) ≤ (ii : Int) := by omega
      obtain rfl : ii = l.fs.length := by omega
      have HZ2 : Hid (fallN keep l.fs.length l.fs = zs) := Lib.hid (by rw [← HZ.out, List.take_of_length_le (by rw [fallA_len]; exact Nat.le_refl _)]; rfl)
      have f0 := HI.out.rat.fr 0
      have f2 := HI.out.rat.fr 2
      have f3 := HI.out.rat.fr 3
      have c2 := HI.out.rat.c2
      have c3 := HI.out.rat.c3
      clear hzl
      go_wp2
      go_end0
      have hf := HI.out.fin
      refine ⟨rfl, .slice oa zs.length oc, ⟨?_, ?_⟩, fun j hj => (HI.out.own.own j hj).1, ?_⟩
      · have e := heap_setCell_same _ d 2 _ 67 (.int .i64 (-1)) (heap_setCell_same _ d 3 _ 67 (.bool false) hf.blk)
        rw [e]
        unfold Lg.fall
        rfl
      · show OwF _ 0 _ (fallN keep l.fs.length l.fs)
        rw [HZ2.out]
        exact (hf.own.keep (Ch.set1 _ d 3 _) fun k hk e => hf.ne (e ▸ hk)).keep (Ch.set1 _ d 2 _) fun k hk e => hf.ne (e ▸ hk)
      · exact (HI.out.ch2.tr (Ch.set1 _ d 3 _)).tr (Ch.set1 _ d 2 _)
end Go.Proofs.Ytceejjocimgbmaa
