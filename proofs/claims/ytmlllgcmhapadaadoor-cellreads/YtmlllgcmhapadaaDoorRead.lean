/- The walks of cutAll, Read and Back. -/
import Derived.Test.YtmlllgcmhapadaaDoorCutV
namespace Go.Proofs.YtmlllgcmhapadaaDoor
open Go Go.RowKit
attribute [-go_sem] Builtin.append_

/-- Value by value, to the end. -/
def readK (cut : List UInt8 → Option (V × List UInt8)) : Nat → List V → List UInt8 → Option (List V)
  | 0, _, _ => none
  | f + 1, acc, s => if s = [] then some acc else match cut s with
    | none => none
    | some x => if acc.length = 64 then none else readK cut f (acc ++ [x.1]) x.2
def readAll (cut : List UInt8 → Option (V × List UInt8)) (s : List UInt8) : Option (List V) := readK cut (s.length + 1) [] s
/-- A cut takes something off. -/
def Cuts (cut : List UInt8 → Option (V × List UInt8)) : Prop := ∀ s v r, cut s = some (v, r) → r.length < s.length
theorem readK_nil (cut : List UInt8 → Option (V × List UInt8)) (f : Nat) (acc : List V) : readK cut (f + 1) acc [] = some acc := by rw [readK, if_pos rfl]
theorem readK_none (cut : List UInt8 → Option (V × List UInt8)) (f : Nat) (acc : List V) (s : List UInt8) (hs : s ≠ []) (h : cut s = none) : readK cut (f + 1) acc s = none := by rw [readK, if_neg hs, h]
theorem readK_full (cut : List UInt8 → Option (V × List UInt8)) (f : Nat) (acc : List V) (s : List UInt8) (hs : s ≠ []) (x : V × List UInt8) (h : cut s = some x) (hl : acc.length = 64) : readK cut (f + 1) acc s = none := by
  rw [readK, if_neg hs, h]; exact if_pos hl
theorem readK_more (cut : List UInt8 → Option (V × List UInt8)) (f : Nat) (acc : List V) (s : List UInt8) (hs : s ≠ []) (v : V) (r : List UInt8) (h : cut s = some (v, r)) (hl : acc.length ≠ 64) : readK cut (f + 1) acc s = readK cut f (acc ++ [v]) r := by
  rw [readK, if_neg hs, h]; exact if_neg hl
theorem cuts_W : Cuts cutW := by
  intro s v r h
  match s with
  | [] => cases h
  | k :: q =>
    rw [cutW.eq_def] at h
    simp only at h
    split at h
    · cases h; simp
    split at h
    · split at h
      · cases h
      · cases h; simp; omega
    split at h
    · split at h
      · cases h
      · split at h
        · cases h; simp; omega
        · cases h
    split at h
    · split at h
      · split at h
        · cases h; simp; omega
        · cases h
      · cases h
    · cases h
theorem unmark_len : ∀ (n : Nat) (s : List UInt8) (x : List UInt8 × List UInt8), s.length ≤ n → unmark s = some x → x.2.length < s.length
  | _, [], x, _, h => by cases h
  | 0, _ :: _, x, hn, h => by simp at hn
  | n + 1, b :: r, x, hn, h => by
    rw [unmark.eq_def] at h
    simp only at h
    split at h
    · split at h
      · cases h
      · rename_i c q
        split at h
        · cases h; simp; omega
        · split at h
          · cases hu : unmark q with
            | none => rw [hu] at h; cases h
            | some y =>
              rw [hu] at h; cases h
              have := unmark_len n q y (by simp at hn; omega) hu
              simp; omega
          · cases h
    · cases hu : unmark r with
      | none => rw [hu] at h; cases h
      | some y =>
        rw [hu] at h; cases h
        have := unmark_len n r y (by simp at hn; omega) hu
        simp; omega
theorem markR_some {s : List UInt8} {x : List UInt8 × List UInt8} (h : markR s = some x) : unmark s = some x ∧ x.1.length ≤ 1000 := by
  unfold markR at h
  cases hu : unmark s with
  | none => rw [hu] at h; cases h
  | some y =>
    rw [hu] at h
    simp only [Option.bind_some] at h
    split at h
    · cases h; exact ⟨rfl, by assumption⟩
    · cases h
theorem cuts_K : Cuts cutK := by
  intro s v r h
  match s with
  | [] => cases h
  | k :: q =>
    rw [cutK.eq_def] at h
    simp only at h
    split at h
    · cases h; simp
    split at h
    · split at h
      · cases h
      · cases h; simp; omega
    split at h
    · split at h
      · cases h
      · split at h
        · cases h; simp; omega
        · cases h
    split at h
    · cases hx : markR q with
      | none => rw [hx] at h; cases h
      | some x =>
        rw [hx] at h; cases h
        have := unmark_len q.length q x (Nat.le_refl _) (markR_some hx).1
        simp; omega
    · cases h
/-- What reading answers. -/
def ReadP (res : Option (List V)) (w : World) (e : Ending) (w' : World) : Prop :=
  ((∃ xs v, res = some xs ∧ e = .returned (.tuple #[v, .bool true]) ∧ OwV w' w.heap.size v xs) ∨ (res = none ∧ e = .returned (.tuple #[.slice none 0 0, .bool false]))) ∧ Below w.heap.size w w'
theorem OwV.form {w : World} {base : Nat} {v : Value} {l : List V} (h : OwV w base v l) : ∃ a cap, v = .slice a l.length cap := by
  obtain ⟨a, cap, hv, _⟩ := h.rd
  exact ⟨a, cap, hv⟩
theorem vrow2 (w : World) (o : Obj) (y : V) : ((w.alloc o).alloc (.cells #[.int .i64 y.k, .int .i64 y.n, .string y.s] 23)).heap[w.heap.size + 1]? = some (.cells #[.int .i64 y.k, .int .i64 y.n, .string y.s] 23 (0, 0)) := by
  have := heap_alloc_new (w.alloc o) (.cells #[.int .i64 y.k, .int .i64 y.n, .string y.s] 23)
  rwa [World.size_alloc] at this

set_option maxRecDepth 100000 in
set_option maxHeartbeats 8000000 in
theorem cutAll_any (f : Nat) (cut : List UInt8 → Option (V × List UInt8)) (hf : f = 36 ∨ f = 37) (hcut : Cuts cut) (hC : ∀ b r w, r.length ≤ 1000000 → Calls Tryd.prog f #[.string (txt (b :: r))] w (CutP cut (b :: r) w))
    (s0 : ByteArray) (hm : s0.size ≤ 1000000) (w : World) :
    Calls Tryd.prog 35 #[.string s0, .func (.func f) #[] #[]] w (ReadP (readAll cut s0.data.toList) w) := by
  have HC := Lib.hid hC
  have HCu := Lib.hid hcut
  clear hC hcut
  rcases hf with rfl | rfl
  all_goals
    go_enter Tryd.func35, Tryd.ntmps35
    go_wp2
    go_loopw [0, 6] (fun s v wr => ∃ (c : List UInt8) (acc : List V) (fu : Nat), s = .string (txt c) ∧ OwV wr w.heap.size v acc ∧ acc.length ≤ 64 ∧ c.length ≤ 1000000 ∧ c.length < fu ∧ Hid (readK cut fu acc c = readAll cut s0.data.toList) ∧ Ch (fun _ => False) w wr) (fun s _ _ => strLen s)
    case atStart => exact ⟨s0.data.toList, [], _, rfl, OwV.nil _ _, by simp, by rw [size_data]; exact hm, Nat.lt_succ_self _, Lib.hid rfl, Ch.refl _ _⟩
    case round =>
      obtain ⟨c, acc, fu, rfl, ho, hal, hcl, hfu, hu, hch⟩ := hrel
      have hz := hch.size
      obtain ⟨oa, ocap, rfl⟩ := ho.form
      obtain ⟨fu, rfl⟩ : ∃ n, fu = n + 1 := ⟨fu - 1, by omega⟩
      cases c with
      | nil =>
        have he := txt_empty
        have HF : Hid (readAll cut s0.data.toList = some acc) := Lib.hid (by rw [← hu.out, readK_nil])
        go_wp2
        go_ret2
        exact ⟨.inl ⟨acc, _, HF.out, rfl, ho⟩, hch.new⟩
      | cons b r =>
        have he := txt_not_empty b r
        have HP := Lib.hid (HC.out b r wr (by simp at hcl; omega))
        have HSz := Lib.hid (txt_size (b :: r))
        generalize txt (b :: r) = S at he HP HSz
        have ho1 : ∀ w1, Below wr.heap.size wr w1 → OwV w1 w.heap.size (.slice oa acc.length ocap) acc := fun w1 hb => ho.new hb
        have HO := Lib.hid ho1
        clear ho1
        go_wp2_with fail
        refine HP.out.mono ?_
        rintro e w1 ⟨⟨v, q, hv, rfl⟩ | ⟨hv, v, q, rfl⟩, hb1⟩
        · have ho2 := HO.out w1 hb1
          have hch1 := hch.tr (Ch.of_new hb1)
          have hz1 := hch1.size
          clear HO hb1 hch ho hz HP
          by_cases hl : acc.length = 64
          · have HF : Hid (readAll cut s0.data.toList = none) := Lib.hid (by rw [← hu.out, readK_full cut fu acc (b :: r) (by simp) (v, q) hv hl])
            have HL := Lib.hid hl
            have hl' : ((acc.length : Int) == 64) = true := by rw [hl]; rfl
            clear hv hl hu
            obtain ⟨k, n, s⟩ := v
            unfold V.val
            go_wp2
            go_ret2
            exact ⟨.inr ⟨HF.out, rfl⟩, (hch1.tr (Ch.alloc _ _ _)).new⟩
          · have HU : Hid (readK cut fu (acc ++ [v]) q = readAll cut s0.data.toList) := Lib.hid (by rw [← hu.out, readK_more cut fu acc (b :: r) (by simp) v q hv hl])
            have hql := HCu.out _ _ _ hv
            have HL : Hid (q.length < S.size ∧ q.length ≤ 1000000 ∧ q.length < fu) := Lib.hid (by rw [HSz.out]; simp at hql hcl hfu ⊢; omega)
            have hl' : ((acc.length : Int) == 64) = false := beq_eq_false_iff_ne.2 (by omega)
            have HAL : Hid (acc.length + 1 ≤ 64) := Lib.hid (by omega)
            clear hv hl hu hql
            obtain ⟨k, n, s⟩ := v
            unfold V.val
            go_wp2_with (at_builtin; refine wpList_val rfl (.tmp 26) (.tmp 28) rfl w.heap.size (.slice oa acc.length ocap) acc rfl (ho2.keep ((Ch.alloc (fun _ => False) _ _).tr (Ch.alloc _ _ _)) (fun _ _ => id)) (w1.heap.size + 1) ⟨k, n, s⟩ rfl (vrow2 _ _ ⟨k, n, s⟩) (by omega) (by simp; omega) ?_; intro v2 w2 ho3 hg3)
            have hch2 : Ch (fun _ => False) w w2 := ((hch1.tr (Ch.alloc _ _ _)).tr (Ch.alloc _ _ _)).trans hg3 (fun j hj h => by have := (ho2.own j h).1; omega)
            clear hg3 ho2 hch1
            go_wp2
            go_roundw
            case rel => exact ⟨q, acc ++ [⟨k, n, s⟩], fu, rfl, ho3, by rw [List.length_append]; exact HAL.out, HL.out.2.1, HL.out.2.2, HU, hch2⟩
            case measure => exact HL.out.1
        · have HF : Hid (readAll cut s0.data.toList = none) := Lib.hid (by rw [← hu.out, readK_none cut fu acc (b :: r) (by simp) hv])
          have hch1 := hch.tr (Ch.of_new hb1)
          clear HO hb1 hch ho hz HP hv hu
          obtain ⟨k, n, s⟩ := v
          unfold V.val
          go_wp2
          go_ret2
          exact ⟨.inr ⟨HF.out, rfl⟩, (hch1.tr (Ch.alloc _ _ _)).new⟩
theorem read_any (s : ByteArray) (hm : s.size ≤ 1000000) (w : World) : Calls Tryd.prog 35 #[.string s, .func (.func 36) #[] #[]] w (ReadP (readAll cutW s.data.toList) w) :=
  cutAll_any 36 cutW (.inl rfl) cuts_W (fun b r w h => cutWritten_any b r h w) s hm w
theorem back_any (s : ByteArray) (hm : s.size ≤ 1000000) (w : World) : Calls Tryd.prog 35 #[.string s, .func (.func 37) #[] #[]] w (ReadP (readAll cutK s.data.toList) w) :=
  cutAll_any 37 cutK (.inr rfl) cuts_K (fun b r w h => cutKeyed_any b r h w) s hm w
set_option maxHeartbeats 1000000 in
theorem Read_any (s : ByteArray) (hm : s.size ≤ 1000000) (w : World) : Calls Tryd.prog 19 #[.string s] w (ReadP (readAll cutW s.data.toList) w) := by
  have HR := Lib.hid (read_any s hm w)
  go_enter Tryd.func19, Tryd.ntmps19
  go_wp2_with fail
  refine HR.out.mono ?_
  rintro e w1 ⟨⟨xs, v, h1, rfl, h3⟩ | ⟨h1, rfl⟩, hb⟩
  · go_wp2
    go_ret2
    exact ⟨.inl ⟨xs, v, h1, rfl, h3⟩, hb⟩
  · go_wp2
    go_ret2
    exact ⟨.inr ⟨h1, rfl⟩, hb⟩
set_option maxHeartbeats 1000000 in
theorem Back_any (s : ByteArray) (hm : s.size ≤ 1000000) (w : World) : Calls Tryd.prog 20 #[.string s] w (ReadP (readAll cutK s.data.toList) w) := by
  have HR := Lib.hid (back_any s hm w)
  go_enter Tryd.func20, Tryd.ntmps20
  go_wp2_with fail
  refine HR.out.mono ?_
  rintro e w1 ⟨⟨xs, v, h1, rfl, h3⟩ | ⟨h1, rfl⟩, hb⟩
  · go_wp2
    go_ret2
    exact ⟨.inl ⟨xs, v, h1, rfl, h3⟩, hb⟩
  · go_wp2
    go_ret2
    exact ⟨.inr ⟨h1, rfl⟩, hb⟩
end Go.Proofs.YtmlllgcmhapadaaDoor
