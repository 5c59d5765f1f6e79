/- The walks of the document's put and drop. -/
import Derived.Test.YtceejjocimgbmaaRefAt
import Derived.Laws.Cover1
import Derived.BigQuiet
namespace Go.Proofs.Ytceejjocimgbmaa
open Go Go.RowKit Go.Maps
attribute [-go_sem] Builtin.append_

/-- Are all of them ahead of a name? -/
def lowB (n : List UInt8) (xs : List Fl) : Bool := xs.all fun p => bytesBefore p.1 n
theorem put_low {n : List UInt8} {a : List UInt8 × Nat} : ∀ {xs : List Fl} (ys : List Fl), lowB n xs = true → put n a (xs ++ ys) = xs ++ put n a ys
  | [], _, _ => rfl
  | p :: r, ys, h => by
    unfold lowB at h
    rw [List.all_cons, Bool.and_eq_true] at h
    rw [List.cons_append, put, if_neg (before_ne h.1), if_neg (by rw [before_asymm h.1]; simp), put_low ys h.2]
    rfl
theorem low_snoc (n : List UInt8) (xs : List Fl) (p : Fl) : lowB n (xs ++ [p]) = (lowB n xs && bytesBefore p.1 n) := by
  unfold lowB; rw [List.all_append]; simp
/-- What is gathered so far. -/
def putN (n : List UInt8) (a : List UInt8 × Nat) (xs : List Fl) : List Fl := if lowB n xs then xs else put n a xs
theorem put_snoc {n : List UInt8} {a : List UInt8 × Nat} {p : Fl} : ∀ {xs : List Fl}, Asc (xs ++ [p]) → lowB n xs = false → p.1 ≠ n ∧ bytesBefore p.1 n = false ∧ put n a (xs ++ [p]) = put n a xs ++ [p]
  | [], _, h => by cases h
  | q :: r, ha, h => by
    have hq : bytesBefore q.1 p.1 = true := ha.head p (by simp)
    rw [List.cons_append, put, put]
    by_cases e : q.1 = n
    · rw [if_pos e, if_pos e]
      rw [e] at hq
      exact ⟨(before_ne hq).symm, before_asymm hq, rfl⟩
    · rw [if_neg e, if_neg e]
      by_cases hb : bytesBefore n q.1 = true
      · rw [if_pos hb, if_pos hb]
        have := WideShapes.bytes_trans _ _ _ hb hq
        exact ⟨(before_ne this).symm, before_asymm this, rfl⟩
      · rw [if_neg hb, if_neg hb]
        have hlow : bytesBefore q.1 n = true := before_of e (by simpa using hb)
        unfold lowB at h
        rw [List.all_cons, hlow, Bool.true_and] at h
        obtain ⟨h1, h2, h3⟩ := put_snoc (xs := r) (a := a) (List.Pairwise.of_cons ha) h
        exact ⟨h1, h2, by rw [h3]; rfl⟩
theorem putN_low {n : List UInt8} {a : List UInt8 × Nat} {xs : List Fl} {p : Fl} (h : lowB n xs = true) (hp : bytesBefore p.1 n = true) : lowB n (xs ++ [p]) = true ∧ putN n a (xs ++ [p]) = xs ++ [p] := by
  have : lowB n (xs ++ [p]) = true := by rw [low_snoc, h, hp]; rfl
  exact ⟨this, by unfold putN; rw [if_pos this]⟩
theorem putN_eq {n : List UInt8} {a : List UInt8 × Nat} {xs : List Fl} {p : Fl} (h : lowB n xs = true) (hp : p.1 = n) : lowB n (xs ++ [p]) = false ∧ putN n a (xs ++ [p]) = xs ++ [(n, a)] := by
  have : lowB n (xs ++ [p]) = false := by rw [low_snoc, h, hp, WideAt.bytes_irrefl]; rfl
  refine ⟨this, ?_⟩
  unfold putN
  rw [this, if_neg (by simp), put_low _ h, put, if_pos hp]
theorem putN_gt {n : List UInt8} {a : List UInt8 × Nat} {xs : List Fl} {p : Fl} (h : lowB n xs = true) (hp : bytesBefore n p.1 = true) : lowB n (xs ++ [p]) = false ∧ putN n a (xs ++ [p]) = xs ++ [(n, a)] ++ [p] := by
  have : lowB n (xs ++ [p]) = false := by rw [low_snoc, before_asymm hp, Bool.and_false]
  refine ⟨this, ?_⟩
  unfold putN
  rw [this, if_neg (by simp), put_low _ h, put, if_neg (before_ne hp).symm, if_pos hp]
  simp
theorem putN_done {n : List UInt8} {a : List UInt8 × Nat} {xs : List Fl} {p : Fl} (ha : Asc (xs ++ [p])) (h : lowB n xs = false) : p.1 ≠ n ∧ lowB n (xs ++ [p]) = false ∧ putN n a (xs ++ [p]) = putN n a xs ++ [p] := by
  obtain ⟨h1, h2, h3⟩ := put_snoc (a := a) ha h
  have : lowB n (xs ++ [p]) = false := by rw [low_snoc, h]; rfl
  refine ⟨h1, this, ?_⟩
  unfold putN
  rw [this, h, if_neg (by simp), if_neg (by simp), h3]
theorem putN_end {n : List UInt8} {a : List UInt8 × Nat} {xs : List Fl} : (lowB n xs = true → putN n a xs = xs ∧ put n a xs = xs ++ [(n, a)]) ∧ (lowB n xs = false → put n a xs = putN n a xs) := by
  refine ⟨fun h => ⟨by unfold putN; rw [if_pos h], ?_⟩, fun h => by unfold putN; rw [h]; rfl⟩
  have := put_low (a := a) [] h
  rw [List.append_nil] at this
  rw [this]; rfl
theorem put_len (n : List UInt8) (a : List UInt8 × Nat) : ∀ xs : List Fl, (put n a xs).length ≤ xs.length + 1
  | [] => by simp [put]
  | p :: r => by
    unfold put
    split
    · simp
    · split
      · simp
      · have := put_len n a r; simp only [List.length_cons]; omega
theorem putN_len (n : List UInt8) (a : List UInt8 × Nat) (xs : List Fl) : (putN n a xs).length ≤ xs.length + 1 := by
  unfold putN; split
  · omega
  · exact put_len n a xs
def leT (a b : ByteArray) : Bool := Op.bytesLess a.toList b.toList || a.toList == b.toList
theorem leq_text (t : TypeId) (a b : ByteArray) : binOp .leq t (.string a) (.string b) = pure (.bool (leT a b)) := by simp [binOp, Op.stringOp, leT]
theorem lt_of_before : ∀ {a b : List UInt8}, bytesBefore a b = true → a < b
  | [], [], h => by simp [bytesBefore] at h
  | [], y :: b, _ => List.nil_lt_cons y b
  | x :: a, [], h => by simp [bytesBefore] at h
  | x :: a, y :: b, h => by
    simp only [bytesBefore, Bool.or_eq_true, decide_eq_true_eq, Bool.and_eq_true, beq_iff_eq] at h
    rcases h with h | ⟨rfl, h⟩
    · exact List.cons_lt_cons_iff.2 (.inl h)
    · exact List.cons_lt_cons_iff.2 (.inr ⟨rfl, lt_of_before h⟩)
theorem leT_lt {a b : ByteArray} (h : bytesBefore a.data.toList b.data.toList = true) : leT a b = true := by
  unfold leT
  rw [ByteArray.toList_eq, ByteArray.toList_eq, bytesLess_eq, decide_eq_true (lt_of_before h)]; rfl
theorem leT_eq (a : ByteArray) : leT a a = true := by unfold leT; simp
theorem leT_gt {a b : ByteArray} (h : bytesBefore b.data.toList a.data.toList = true) : leT a b = false := by
  unfold leT
  rw [ByteArray.toList_eq, ByteArray.toList_eq, bytesLess_eq, decide_eq_false (List.not_lt.2 (le_of_before h)), beq_eq_false_iff_ne.2 (before_ne h).symm]; rfl

theorem OwF.form {w : World} {base : Nat} {v : Value} {xs : List Fl} (h : OwF w base v xs) : ∃ a c, v = .slice a xs.length c := by
  obtain ⟨a, c, hv, _⟩ := h.rd
  exact ⟨a, c, hv⟩
theorem frow (W : World) (i : Nat) (hi : W.heap.size = i) (n t : ByteArray) (k : Nat) : (W.alloc (.cells #[.string n, .string t, .int .i64 (k : Int)] 74)).heap[i]? = some (.cells #[.string n, .string t, .int .i64 (k : Int)] 74 (0, 0)) := by
  subst hi
  exact heap_alloc_new W _
theorem RAt.rdw {w : World} {d : Nat} {l : Lg} {a : Option Addr} {n cap : Nat} (h : RAt w d l (.slice a n cap)) : RdF w a l.fs := by
  obtain ⟨a', c', e, hR, _⟩ := h.rd
  injection e with e1
  rw [e1]; exact hR
/-- What a round of put leaves. -/
structure PutI (w wr : World) (d : Nat) (l : Lg) (v g : Value) (n t : ByteArray) (k : Nat) (xs : List Fl) : Prop where
  rat : RAt wr d l v
  own : OwF wr (w.heap.size + 1) g xs
  ch : Ch (fun _ => False) w wr
  box : wr.heap[w.heap.size]? = some (.cells #[.string n, .string t, .int .i64 (k : Int)] 74 (0, 0))
  dl : d < w.heap.size
  vl : ∀ j, v.ownBlock = some j → j < w.heap.size
section
variable {w wr w1 w2 : World} {d : Nat} {l : Lg} {v g g2 : Value} {n t : ByteArray} {k : Nat} {xs ys : List Fl}
theorem PutI.app (h : PutI w wr d l v g n t k xs) (h1 : Ch (fun _ => False) wr w1) (ho : OwF w2 (w.heap.size + 1) g2 ys) (hc : Ch (fun j => g.ownBlock = some j) w1 w2) : PutI w w2 d l v g2 n t k ys := by
  have hC : Ch (fun j => g.ownBlock = some j) wr w2 := (Ch.mono h1 fun _ _ e => False.elim e).tr hc
  have hge : ∀ j, g.ownBlock = some j → w.heap.size + 1 ≤ j := fun j hj => (h.own.own j hj).1
  have hd := h.dl
  refine ⟨h.rat.keep hC (fun e => by have := hge _ e; omega) (fun j hj e => by have := hge _ e; have := h.vl j hj; omega), ho, h.ch.trans hC (fun j hj e => by have := hge _ e; omega), ?_, h.dl, h.vl⟩
  exact (hC.block _ (lt_of_heap h.box) (fun e => by have := hge _ e; omega)).trans h.box
theorem PutI.drewN (h : PutI w wr d l v g n t k xs) (q : Nat) : PutI w (wr.drewN q) d l v g n t k xs := ⟨h.rat.keep (Ch.drewN (fun _ => False) wr q) id fun _ _ => id, h.own.keep (Ch.drewN (fun _ => False) wr q) fun _ _ => id, h.ch.tr (Ch.drewN _ wr q), h.box, h.dl, h.vl⟩
theorem PutI.fin (h : PutI w wr d l v g n t k xs) : RAt (wr.setCell ⟨d, 0, none⟩ g) d { l with fs := xs } g :=
  h.rat.files (h.own.base (Nat.zero_le _)) fun e => by have := (h.own.own d e).1; have := h.dl; omega
theorem PutI.ch2 (h : PutI w wr d l v g n t k xs) {x : Value} : Ch (fun j => j = d) w (wr.setCell ⟨d, 0, none⟩ x) := (Ch.mono h.ch fun _ _ e => False.elim e).tr (Ch.set1 wr d 0 x)
theorem PutI.o1 (h : PutI w wr d l v g n t k xs) (h1 : Ch (fun _ => False) wr w1) : OwF w1 (w.heap.size + 1) g xs := h.own.keep h1 fun _ _ => id
theorem PutI.size (h : PutI w wr d l v g n t k xs) : w.heap.size < wr.heap.size := lt_of_heap h.box
theorem PutI.facts {a : Option Addr} {m cap : Nat} (h : PutI w wr d l (.slice a m cap) g n t k xs) {ii : Nat} (hi : ii < l.fs.length) {b off : Nat} (ha : a = some ⟨b, off, none⟩) {p : Fl} (hp : at_ l.fs ii = p) : wr.cell? ⟨d, 0, none⟩ = some (.slice a m cap) ∧
    (wr.cell? ⟨w.heap.size, 0, none⟩ = some (.string n) ∧ wr.cell? ⟨w.heap.size, 1, none⟩ = some (.string t) ∧ wr.cell? ⟨w.heap.size, 2, none⟩ = some (.int .i64 (k : Int))) ∧
    wr.cell? ⟨b, off + ii * 3, none⟩ = some (.string (txt p.1)) ∧ wr.cell? ⟨b, off + ii * 3 + 1, none⟩ = some (.string (txt p.2.1)) ∧ wr.cell? ⟨b, off + ii * 3 + 2, none⟩ = some (.int .i64 (p.2.2 : Int)) := by
  refine ⟨h.rat.c0, ⟨cell_of_row _ _ _ _ _ _ h.box, cell_of_row _ _ _ _ _ _ h.box, cell_of_row _ _ _ _ _ _ h.box⟩, ?_⟩
  obtain ⟨b', off', e, k0, k1, k2⟩ := h.rat.rdw ii hi
  rw [ha] at e
  injection e with e
  injection e with e1 e2
  subst e1 e2 hp
  exact ⟨k0, k1, k2⟩
end
theorem ch_da (w : World) (q : Nat) (o : Obj) : Ch (fun _ => False) w ((w.drewN q).alloc o) := (Ch.drewN _ w q).tr (Ch.alloc _ _ _)
theorem drewN_size (w : World) (q : Nat) : (w.drewN q).heap.size = w.heap.size := rfl
attribute [local go_sem high] leq_text

set_option maxRecDepth 100000 in
set_option maxHeartbeats 8000000 in
theorem rput_any {w : World} {d : Nat} {l : Lg} {v : Value} (h : RAt w d l v) (ho : Asc l.fs) (hlen : l.fs.length ≤ 1000000) (n t : ByteArray) (k : Nat) :
    Calls Try.prog 42 #[dp d, .agg #[.string n, .string t, .int .i64 (k : Int)]] w fun e w' => e = .returned (.tuple #[]) ∧ ∃ v', RAt w' d { l with fs := put n.data.toList (t.data.toList, k) l.fs } v' ∧ (∀ j, v'.ownBlock = some j → w.heap.size ≤ j) ∧ Ch (fun j => j = d) w w' := by
  have H0 : Hid (PutI w (w.alloc (.cells #[.string n, .string t, .int .i64 (k : Int)] 74)) d l v (.slice none 0 0) n t k (putN n.data.toList (t.data.toList, k) (l.fs.take 0))) := Lib.hid ⟨h.new ((Below.refl _ _).alloc (Nat.le_refl _) _), OwF.nil _ _, Ch.alloc _ _ _, heap_alloc_new _ _, lt_of_heap h.blk, fun j hj => (h.own.own j hj).2⟩
  have hlI : (l.fs.length : Int) ≤ 1000000 := by omega
  obtain ⟨a, cap, hvs, -, -⟩ := h.rd
  have HV := Lib.hid ho
  clear h ho
  subst hvs
  unfold dp
  go_enter Try.func42, Try.ntmps42
  go_wp2
  go_loopw [4, 5, 6] (fun g dn i wr => ∃ (ii : Nat), i = .int .i64 (ii : Int) ∧ ii ≤ l.fs.length ∧ dn = .bool (!lowB n.data.toList (l.fs.take ii)) ∧ Hid (PutI w wr d l (.slice a l.fs.length cap) g n t k (putN n.data.toList (t.data.toList, k) (l.fs.take ii)))) (fun _ _ i _ => l.fs.length - (intOf i).toNat)
  case atStart => exact ⟨0, rfl, Nat.zero_le _, rfl, H0⟩
  case round =>
    clear H0
    obtain ⟨ii, rfl, hi, rfl, HI⟩ := hrel
    obtain ⟨oa, oc, hg⟩ := HI.out.own.form
    subst hg
    have hpl := putN_len n.data.toList (t.data.toList, k) (l.fs.take ii)
    rw [List.length_take, Nat.min_eq_left hi] at hpl
    by_cases hlt : ii < l.fs.length
    · have hlt' : (ii : Int) < (l.fs.length : Int) := by omega
      have hi0 : (0 : Int) ≤ (ii : Int) := by omega
      have hsz := HI.out.size
      obtain ⟨b, off, rfl, -, -, -⟩ := HI.out.rat.rdw ii hlt
      have HA : Hid (Asc (l.fs.take ii ++ [at_ l.fs ii])) := Lib.hid (by rw [← take_at hlt]; exact List.Pairwise.sublist (List.take_sublist _ _) HV.out)
      have HT := Lib.hid (take_at hlt)
      have HP : Hid (∃ p, at_ l.fs ii = p) := Lib.hid ⟨_, rfl⟩
      obtain ⟨⟨pn, pt, pk⟩, hp⟩ := HP.out
      rw [hp] at HA HT
      have HF := Lib.hid (fun wx gx ys (hx : PutI w wx d l (.slice (some ⟨b, off, none⟩) l.fs.length cap) gx n t k ys) => hx.facts hlt rfl hp)
      obtain ⟨c0, ⟨b0, b1, b2⟩, k0, k1, k2⟩ := HF.out _ _ _ HI.out
      simp only at k0 k1 k2
      clear hp HP
      cases hl : lowB n.data.toList (l.fs.take ii) with
      | true =>
        have HO : Hid (putN n.data.toList (t.data.toList, k) (l.fs.take ii) = l.fs.take ii) := Lib.hid (putN_end.1 hl).1
        rcases Classical.em (pn = n.data.toList) with he | he
        · subst he
          have HX := Lib.hid (putN_eq (a := (t.data.toList, k)) (p := (n.data.toList, pt, pk)) hl rfl)
          rw [← HT.out] at HX
          have hle := leT_eq n
          rw [txt_data] at k0
          generalize putN n.data.toList (t.data.toList, k) (l.fs.take ii) = zs at *
          obtain ⟨ys, hys⟩ : ∃ ys, zs ++ [(n.data.toList, t.data.toList, k)] = ys := ⟨_, rfl⟩
          have HY := Lib.hid hys
          clear hys
          go_wp2
          go_quiet (fail)
          go_wp2_with (at_builtin; refine wpList_file rfl (.tmp 31) (.tmp 33) rfl (w.heap.size + 1) (.slice oa zs.length oc) zs rfl (HI.out.o1 (ch_da _ _ _)) wr.heap.size n t k rfl (frow _ _ (drewN_size _ _) _ _ _) (by omega) (by simp; omega) ?_; intro g2 w2 ho2 hc2; rw [HY.out] at ho2; have HI2 := Lib.hid (HI.out.app (ch_da _ _ _) ho2 hc2); clear c0 b0 b1 b2 k0 k1 k2 ho2 hc2; obtain ⟨c0, ⟨b0, b1, b2⟩, k0, k1, k2⟩ := HF.out _ _ _ HI2.out; (try simp only [txt_data] at k0); obtain ⟨oa2, oc2, hg2⟩ := HI2.out.own.form; subst hg2)
          go_quiet (fail)
          go_wp2
          go_roundw
          case rel => exact ⟨ii + 1, by go_num, by omega, by rw [HX.out.1]; rfl, Lib.hid (by rw [HX.out.2, ← HO.out, HY.out]; exact HI2.out.drewN _)⟩
          case measure => simp [intOf]; omega
        · cases hb : bytesBefore pn n.data.toList with
          | true =>
            have HX := Lib.hid (putN_low (a := (t.data.toList, k)) (p := (pn, pt, pk)) hl hb)
            rw [← HT.out] at HX
            have hle : leT n (txt pn) = false := leT_gt hb
            have hne := str_ne (a := txt pn) (b := n) he
            clear he hb
            generalize putN n.data.toList (t.data.toList, k) (l.fs.take ii) = zs at *
            go_wp2
            go_quiet (fail)
            go_wp2
            go_quiet (fail)
            go_wp2_with (at_builtin; refine wpList_file rfl (.tmp 46) (.tmp 54) rfl (w.heap.size + 1) (.slice oa zs.length oc) zs rfl (HI.out.o1 (ch_da _ _ _)) wr.heap.size (txt pn) (txt pt) pk rfl (frow _ _ (drewN_size _ _) _ _ _) (by omega) (by simp; omega) ?_; intro g2 w2 ho2 hc2)
            go_roundw
            case rel => exact ⟨ii + 1, by go_num, by omega, by rw [HX.out.1]; rfl, Lib.hid (HI.out.app (ch_da _ _ _) (by rw [HX.out.2, HT.out, ← HO.out]; exact ho2) hc2)⟩
            case measure => simp [intOf]; omega
          | false =>
            have hb' := before_of (fun e => he e.symm) hb
            have HX := Lib.hid (putN_gt (a := (t.data.toList, k)) (p := (pn, pt, pk)) hl hb')
            rw [← HT.out] at HX
            have hle : leT n (txt pn) = true := leT_lt hb'
            have hne := str_ne (a := txt pn) (b := n) he
            clear he hb hb'
            generalize putN n.data.toList (t.data.toList, k) (l.fs.take ii) = zs at *
            obtain ⟨ys, hys⟩ : ∃ ys, zs ++ [(n.data.toList, t.data.toList, k)] = ys := ⟨_, rfl⟩
            have HY := Lib.hid hys
            have hln : ys.length + 1 ≤ 100000000 := by rw [← hys, List.length_append]; simp; omega
            clear hys
            go_wp2
            go_quiet (fail)
            go_wp2_with (at_builtin; refine wpList_file rfl (.tmp 31) (.tmp 33) rfl (w.heap.size + 1) (.slice oa zs.length oc) zs rfl (HI.out.o1 (ch_da _ _ _)) wr.heap.size n t k rfl (frow _ _ (drewN_size _ _) _ _ _) (by omega) (by simp; omega) ?_; intro g2 w2 ho2 hc2; rw [HY.out] at ho2; have HI2 := Lib.hid (HI.out.app (ch_da _ _ _) ho2 hc2); clear c0 b0 b1 b2 k0 k1 k2 ho2 hc2; obtain ⟨c0, ⟨b0, b1, b2⟩, k0, k1, k2⟩ := HF.out _ _ _ HI2.out; (try simp only at k0 k1 k2); obtain ⟨oa2, oc2, hg2⟩ := HI2.out.own.form; subst hg2)
            go_quiet (fail)
            have hsz2 := HI2.out.size
            go_wp2_with (at_builtin; refine wpList_file rfl (.tmp 46) (.tmp 54) rfl (w.heap.size + 1) (.slice oa2 ys.length oc2) ys rfl (HI2.out.o1 (ch_da _ _ _)) w2.heap.size (txt pn) (txt pt) pk rfl (frow _ _ (drewN_size _ _) _ _ _) hln (by simp; omega) ?_; intro g3 w3 ho3 hc3)
            go_roundw
            case rel => exact ⟨ii + 1, by go_num, by omega, by rw [HX.out.1]; rfl, Lib.hid (HI2.out.app (ch_da _ _ _) (by rw [HX.out.2, ← HO.out, HY.out]; exact ho3) hc3)⟩
            case measure => simp [intOf]; omega
      | false =>
        obtain ⟨he, hl2, hx⟩ := putN_done (a := (t.data.toList, k)) HA.out hl
        have HX := Lib.hid (And.intro hl2 hx)
        rw [← HT.out] at HX
        have hne := str_ne (a := txt pn) (b := n) he
        clear he hl2 hx
        generalize putN n.data.toList (t.data.toList, k) (l.fs.take ii) = zs at *
        go_wp2
        go_quiet (fail)
        go_wp2
        go_quiet (fail)
        go_wp2_with (at_builtin; refine wpList_file rfl (.tmp 46) (.tmp 54) rfl (w.heap.size + 1) (.slice oa zs.length oc) zs rfl (HI.out.o1 (ch_da _ _ _)) wr.heap.size (txt pn) (txt pt) pk rfl (frow _ _ (drewN_size _ _) _ _ _) (by omega) (by simp; omega) ?_; intro g2 w2 ho2 hc2)
        go_roundw
        case rel => exact ⟨ii + 1, by go_num, by omega, by rw [HX.out.1]; rfl, Lib.hid (HI.out.app (ch_da _ _ _) (by rw [HX.out.2]; exact ho2) hc2)⟩
        case measure => simp [intOf]; omega
    · have hlt' : (l.fs.length : Int) ≤ (ii : Int) := by omega
      obtain rfl : ii = l.fs.length := by omega
      rw [List.take_length] at HI hpl ⊢
      have c0 := HI.out.rat.c0
      have f0 := HI.out.rat.fr 0
      have b0 : wr.cell? ⟨w.heap.size, 0, none⟩ = some (.string n) := cell_of_row _ _ _ _ _ _ HI.out.box
      have b1 : wr.cell? ⟨w.heap.size, 1, none⟩ = some (.string t) := cell_of_row _ _ _ _ _ _ HI.out.box
      have b2 : wr.cell? ⟨w.heap.size, 2, none⟩ = some (.int .i64 (k : Int)) := cell_of_row _ _ _ _ _ _ HI.out.box
      have hsz := HI.out.size
      cases hl : lowB n.data.toList l.fs with
      | true =>
        have HO := Lib.hid ((putN_end (a := (t.data.toList, k))).1 hl)
        clear hl
        generalize putN n.data.toList (t.data.toList, k) l.fs = zs at *
        obtain ⟨ys, hys⟩ : ∃ ys, zs ++ [(n.data.toList, t.data.toList, k)] = ys := ⟨_, rfl⟩
        have HY := Lib.hid hys
        clear hys
        go_wp2_with (at_builtin; refine wpList_file rfl (.tmp 58) (.tmp 60) rfl (w.heap.size + 1) (.slice oa zs.length oc) zs rfl (HI.out.o1 (Ch.alloc _ _ _)) wr.heap.size n t k rfl (frow _ _ rfl _ _ _) (by omega) (by simp; omega) ?_; intro g2 w2 ho2 hc2; rw [HY.out] at ho2; have HI2 := Lib.hid (HI.out.app (Ch.alloc _ _ _) ho2 hc2); have c0' := HI2.out.rat.c0; have f0' := HI2.out.rat.fr 0; clear ho2 hc2 c0 f0; obtain ⟨oa2, oc2, hg2⟩ := HI2.out.own.form; rw [hg2] at HI2; subst hg2)
        go_end0
        refine ⟨rfl, _, (by rw [HO.out.2, ← HO.out.1, HY.out]; exact HI2.out.fin), fun j hj => ?_, HI2.out.ch2⟩
        have := (HI2.out.own.own j hj).1
        omega
      | false =>
        have HO := Lib.hid ((putN_end (a := (t.data.toList, k))).2 hl)
        clear hl
        go_wp2
        go_end0
        refine ⟨rfl, _, (by rw [HO.out]; exact HI.out.fin), fun j hj => ?_, HI.out.ch2⟩
        have := (HI.out.own.own j hj).1
        omega

/-- What a round of drop leaves. -/
structure DropI (w wr : World) (d : Nat) (l : Lg) (v g : Value) (xs : List Fl) : Prop where
  rat : RAt wr d l v
  own : OwF wr w.heap.size g xs
  ch : Ch (fun _ => False) w wr
  dl : d < w.heap.size
  vl : ∀ j, v.ownBlock = some j → j < w.heap.size
section
variable {w wr w1 w2 : World} {d : Nat} {l : Lg} {v g g2 : Value} {xs ys : List Fl}
theorem DropI.app (h : DropI w wr d l v g xs) (h1 : Ch (fun _ => False) wr w1) (ho : OwF w2 w.heap.size g2 ys) (hc : Ch (fun j => g.ownBlock = some j) w1 w2) : DropI w w2 d l v g2 ys := by
  have hC : Ch (fun j => g.ownBlock = some j) wr w2 := (Ch.mono h1 fun _ _ e => False.elim e).tr hc
  have hge : ∀ j, g.ownBlock = some j → w.heap.size ≤ j := fun j hj => (h.own.own j hj).1
  have hd := h.dl
  exact ⟨h.rat.keep hC (fun e => by have := hge _ e; omega) (fun j hj e => by have := hge _ e; have := h.vl j hj; omega), ho, h.ch.trans hC (fun j hj e => by have := hge _ e; omega), h.dl, h.vl⟩
theorem DropI.fin (h : DropI w wr d l v g xs) : RAt (wr.setCell ⟨d, 0, none⟩ g) d { l with fs := xs } g :=
  h.rat.files (h.own.base (Nat.zero_le _)) fun e => by have := (h.own.own d e).1; have := h.dl; omega
theorem DropI.ch2 (h : DropI w wr d l v g xs) {x : Value} : Ch (fun j => j = d) w (wr.setCell ⟨d, 0, none⟩ x) := (Ch.mono h.ch fun _ _ e => False.elim e).tr (Ch.set1 wr d 0 x)
theorem DropI.o1 (h : DropI w wr d l v g xs) (h1 : Ch (fun _ => False) wr w1) : OwF w1 w.heap.size g xs := h.own.keep h1 fun _ _ => id
end
theorem del_snoc (n : List UInt8) (xs : List Fl) (p : Fl) : del n (xs ++ [p]) = if p.1 = n then del n xs else del n xs ++ [p] := by
  unfold del
  rw [List.filter_append]
  by_cases h : p.1 = n
  · simp [h]
  · simp [h]
theorem del_len (n : List UInt8) (xs : List Fl) : (del n xs).length ≤ xs.length := List.length_filter_le _ _
set_option maxRecDepth 100000 in
set_option maxHeartbeats 8000000 in
theorem rdrop_any {w : World} {d : Nat} {l : Lg} {v : Value} (h : RAt w d l v) (hlen : l.fs.length ≤ 1000000) (n : ByteArray) :
    Calls Try.prog 49 #[dp d, .string n] w fun e w' => e = .returned (.tuple #[]) ∧ ∃ v', RAt w' d { l with fs := del n.data.toList l.fs } v' ∧ (∀ j, v'.ownBlock = some j → w.heap.size ≤ j) ∧ Ch (fun j => j = d) w w' := by
  have H0 : Hid (DropI w w d l v (.slice none 0 0) (del n.data.toList (l.fs.take 0))) := Lib.hid ⟨h, OwF.nil _ _, Ch.refl _ _, lt_of_heap h.blk, fun j hj => (h.own.own j hj).2⟩
  have hlI : (l.fs.length : Int) ≤ 1000000 := by omega
  obtain ⟨a, cap, hvs, -, -⟩ := h.rd
  clear h
  subst hvs
  unfold dp
  go_enter Try.func49, Try.ntmps49
  go_wp2
  go_loopw [4, 5] (fun g i wr => ∃ (ii : Nat), i = .int .i64 (ii : Int) ∧ ii ≤ l.fs.length ∧ Hid (DropI w wr d l (.slice a l.fs.length cap) g (del n.data.toList (l.fs.take ii)))) (fun _ i _ => l.fs.length - (intOf i).toNat)
  case atStart => exact ⟨0, rfl, Nat.zero_le _, H0⟩
  case round =>
    clear H0
    obtain ⟨ii, rfl, hi, HI⟩ := hrel
    obtain ⟨oa, oc, hg⟩ := HI.out.own.form
    subst hg
    have hpl := del_len n.data.toList (l.fs.take ii)
    rw [List.length_take, Nat.min_eq_left hi] at hpl
    have c0 := HI.out.rat.c0
    have f0 := HI.out.rat.fr 0
    have hcs := HI.out.ch.size
    by_cases hlt : ii < l.fs.length
    · have hlt' : (ii : Int) < (l.fs.length : Int) := by omega
      have hi0 : (0 : Int) ≤ (ii : Int) := by omega
      obtain ⟨b, off, rfl, k0, k1, k2⟩ := HI.out.rat.rdw ii hlt
      have HT := Lib.hid (take_at hlt)
      have HS := Lib.hid (del_snoc n.data.toList (l.fs.take ii) (at_ l.fs ii))
      rw [← HT.out] at HS
      clear HT
      generalize at_ l.fs ii = p at *
      obtain ⟨pn, pt, pk⟩ := p
      simp only at k0 k1 k2 HS
      generalize del n.data.toList (l.fs.take ii) = zs at *
      by_cases he : pn = n.data.toList
      · subst he
        rw [txt_data] at k0
        rw [if_pos rfl] at HS
        go_wp2
        go_roundw
        case rel => exact ⟨ii + 1, by go_num, by omega, by rw [HS.out]; exact HI⟩
        case measure => simp [intOf]; omega
      · rw [if_neg he] at HS
        have hne := str_ne (a := txt pn) (b := n) he
        go_wp2_with (at_builtin; refine wpList_file rfl (.tmp 25) (.tmp 33) rfl w.heap.size (.slice oa zs.length oc) zs rfl (HI.out.o1 (Ch.alloc _ _ _)) wr.heap.size (txt pn) (txt pt) pk rfl (frow _ _ rfl _ _ _) (by omega) (by simp; omega) ?_; intro g2 w2 ho2 hc2)
        go_roundw
        case rel => exact ⟨ii + 1, by go_num, by omega, by rw [HS.out]; exact Lib.hid (HI.out.app (Ch.alloc _ _ _) ho2 hc2)⟩
        case measure => simp [intOf]; omega
    · have hlt' : (l.fs.length : Int) ≤ (ii : Int) := by omega
      obtain rfl : ii = l.fs.length := by omega
      rw [List.take_length] at HI hpl ⊢
      go_wp2
      go_end0
      exact ⟨rfl, _, HI.out.fin, fun j hj => (HI.out.own.own j hj).1, HI.out.ch2⟩
end Go.Proofs.Ytceejjocimgbmaa
