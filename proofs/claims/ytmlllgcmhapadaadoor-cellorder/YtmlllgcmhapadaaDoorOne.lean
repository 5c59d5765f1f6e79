/- Values that are shown alike are one, plainly. -/
import Derived.Test.YtmlllgcmhapadaaDoorShow
namespace Go.Proofs.YtmlllgcmhapadaaDoor
open Go

def valD (l : List UInt8) : Nat := l.foldl (fun a c => a * 10 + (c.toNat - 48)) 0
theorem valD_snoc (l : List UInt8) (c : UInt8) : valD (l ++ [c]) = valD l * 10 + (c.toNat - 48) := by simp [valD, List.foldl_append]
theorem valD_dec (u : Nat) : valD (Lib.decDigits u) = u := by
  induction u using Nat.strongRecOn with
  | _ u ih =>
    rw [Lib.decDigits]
    split
    · rename_i h
      simp [valD, UInt8.toNat_ofNat']
      omega
    · rename_i h
      rw [valD_snoc, ih (u / 10) (by omega), UInt8.toNat_ofNat']
      omega
theorem dec_head (u : Nat) : ∃ c r, Lib.decDigits u = c :: r ∧ 48 ≤ c.toNat ∧ c.toNat ≤ 57 := by
  induction u using Nat.strongRecOn with
  | _ u ih =>
    rw [Lib.decDigits]
    split
    · rename_i h
      exact ⟨_, [], rfl, by rw [UInt8.toNat_ofNat']; omega, by rw [UInt8.toNat_ofNat']; omega⟩
    · rename_i h
      obtain ⟨c, r, e, h1, h2⟩ := ih (u / 10) (by omega)
      exact ⟨c, r ++ [_], by rw [e]; rfl, h1, h2⟩
theorem itoa_head (n : Int) : ∃ c r, Lib.itoa n = c :: r ∧ (c.toNat = 45 ∧ n < 0 ∨ 48 ≤ c.toNat ∧ c.toNat ≤ 57 ∧ 0 ≤ n) := by
  unfold Lib.itoa
  split
  · exact ⟨45, _, rfl, .inl ⟨rfl, by assumption⟩⟩
  · obtain ⟨c, r, e, h1, h2⟩ := dec_head n.toNat
    exact ⟨c, r, e, .inr ⟨h1, h2, by omega⟩⟩
theorem itoa_inj {m n : Int} (h : Lib.itoa m = Lib.itoa n) : m = n := by
  obtain ⟨c, r, e1, h1⟩ := itoa_head m
  obtain ⟨d, s, e2, h2⟩ := itoa_head n
  have e3 : c = d := by rw [e1, e2] at h; injection h
  subst e3
  unfold Lib.itoa at h
  by_cases hm : m < 0
  · have hn : n < 0 := by omega
    rw [if_pos hm, if_pos hn] at h
    injection h with _ h
    have h3 := congrArg valD h
    rw [valD_dec, valD_dec] at h3
    omega
  · have hn : ¬ n < 0 := by omega
    rw [if_neg hm, if_neg hn] at h
    have h3 := congrArg valD h
    rw [valD_dec, valD_dec] at h3
    omega
theorem subst1_inj (c a : UInt8) : ∀ l m : List UInt8, subst1 c [c, a] l = subst1 c [c, a] m → l = m
  | [], [], _ => rfl
  | [], b :: m, h => by rw [subst1_cons, subst1_nil] at h; split at h <;> simp at h
  | b :: l, [], h => by rw [subst1_cons, subst1_nil] at h; split at h <;> simp at h
  | b :: l, d :: m, h => by
    rw [subst1_cons, subst1_cons] at h
    by_cases hb : b = c
    · by_cases hd : d = c
      · rw [if_pos hb, if_pos hd] at h
        simp only [List.cons_append, List.nil_append, List.cons.injEq, true_and] at h
        rw [hb, hd, subst1_inj c a l m h]
      · rw [if_pos hb, if_neg hd] at h
        simp only [List.cons_append, List.nil_append, List.cons.injEq] at h
        exact absurd h.1.symm hd
    · by_cases hd : d = c
      · rw [if_neg hb, if_pos hd] at h
        simp only [List.cons_append, List.nil_append, List.cons.injEq] at h
        exact absurd h.1 hb
      · rw [if_neg hb, if_neg hd] at h
        simp only [List.cons_append, List.nil_append, List.cons.injEq] at h
        rw [h.1, subst1_inj c a l m h.2]
theorem hexd_inj : ∀ i j : Fin 16, hexd i.val = hexd j.val → i = j := by decide
theorem hexL_inj : ∀ l m : List UInt8, hexL l = hexL m → l = m
  | [], [], _ => rfl
  | [], b :: m, h => by simp [hexL] at h
  | b :: l, [], h => by simp [hexL] at h
  | b :: l, d :: m, h => by
    have h' : hexd (b.toNat / 16) :: hexd (b.toNat % 16) :: hexL l = hexd (d.toNat / 16) :: hexd (d.toNat % 16) :: hexL m := h
    simp only [List.cons.injEq] at h'
    have hb := b.toNat_lt
    have hd := d.toNat_lt
    have h1 := hexd_inj ⟨b.toNat / 16, by omega⟩ ⟨d.toNat / 16, by omega⟩ h'.1
    have h2 := hexd_inj ⟨b.toNat % 16, by omega⟩ ⟨d.toNat % 16, by omega⟩ h'.2.1
    simp only [Fin.mk.injEq] at h1 h2
    rw [UInt8.toNat_inj.1 (show b.toNat = d.toNat by omega), hexL_inj l m h'.2.2]
/-- By its first sign a value tells its Kind. -/
def cls (c : UInt8) : Int := if c.toNat = 78 then 0 else if c.toNat = 84 ∨ c.toNat = 70 then 2 else if c.toNat = 39 then 3 else if c.toNat = 120 then 4 else 1
theorem show_head {v : V} (h : rightB v = true) : ∃ c r, showL v = c :: r ∧ cls c = v.k := by
  unfold showL
  rw [if_pos h]
  rcases right_cases h with ⟨h1, h2, h3⟩ | ⟨h1, h2⟩ | ⟨h1, h2, h3⟩ | ⟨h1, h2, h3⟩ | ⟨h1, h2, h3⟩
  · simp only [h1]; exact ⟨_, _, rfl, rfl⟩
  · rw [if_pos h1, h1]
    obtain ⟨c, r, e, hc⟩ := itoa_head v.n
    refine ⟨c, r, e, ?_⟩
    unfold cls
    rw [if_neg (by omega), if_neg (by omega), if_neg (by omega), if_neg (by omega)]
  · simp only [h1]
    rcases h2 with h2 | h2 <;> rw [h2] <;> exact ⟨_, _, rfl, rfl⟩
  · simp only [h1]; exact ⟨_, _, rfl, rfl⟩
  · simp only [h1]; exact ⟨_, _, rfl, rfl⟩
theorem V.ext' {a b : V} (h1 : a.k = b.k) (h2 : a.n = b.n) (h3 : a.s = b.s) : a = b := by
  cases a; cases b; simp only at h1 h2 h3; subst h1 h2 h3; rfl
theorem data_inj {s t : ByteArray} (h : s.data.toList = t.data.toList) : s = t := by
  apply ByteArray.ext
  exact Array.toList_inj.1 h
theorem app_one_inj {p l m : List UInt8} {c : UInt8} (h : p ++ l ++ [c] = p ++ m ++ [c]) : l = m := by
  rw [List.append_assoc, List.append_assoc] at h
  exact List.append_cancel_right (List.append_cancel_left h)
theorem show_inj {a b : V} (ha : rightB a = true) (hb : rightB b = true) (h : showL a = showL b) : a = b := by
  obtain ⟨c, r, e1, k1⟩ := show_head ha
  obtain ⟨d, s, e2, k2⟩ := show_head hb
  have e3 : c = d := by rw [e1, e2] at h; injection h
  have hk : a.k = b.k := by rw [← k1, ← k2, e3]
  clear e1 e2 k1 k2 e3 c d r s
  unfold showL at h
  rw [if_pos ha, if_pos hb] at h
  rcases right_cases ha with ⟨h1, h2, h3⟩ | ⟨h1, h2⟩ | ⟨h1, h2, h3⟩ | ⟨h1, h2, h3⟩ | ⟨h1, h2, h3⟩ <;>
    rcases right_cases hb with ⟨g1, g2, g3⟩ | ⟨g1, g2⟩ | ⟨g1, g2, g3⟩ | ⟨g1, g2, g3⟩ | ⟨g1, g2, g3⟩ <;>
    first
    | (exfalso; omega)
    | skip
  · exact V.ext' hk (by rw [h2, g2]) (by rw [h3, g3])
  · rw [if_pos h1, if_pos g1] at h
    exact V.ext' hk (itoa_inj h) (by rw [h2, g2])
  · simp only [h1, g1] at h
    refine V.ext' hk ?_ (by rw [h3, g3])
    rcases h2 with h2 | h2 <;> rcases g2 with g2 | g2 <;> simp only [h2, g2] at h ⊢ <;> simp at h
  · simp only [h1, g1] at h
    exact V.ext' hk (by rw [h2, g2]) (data_inj (subst1_inj 39 39 _ _ (app_one_inj h)))
  · simp only [h1, g1] at h
    exact V.ext' hk (by rw [h2, g2]) (data_inj (hexL_inj _ _ (app_one_inj h)))
/-- Are two values one? -/
def sameV (a b : V) : Bool := (a.k == b.k) && ((a.n == b.n) && (a.s.toList == b.s.toList))
theorem toList_inj {s t : ByteArray} : s.toList = t.toList ↔ s = t := by
  rw [ByteArray.toList_eq, ByteArray.toList_eq]
  exact ⟨data_inj, fun h => by rw [h]⟩
theorem sameV_iff (a b : V) : sameV a b = true ↔ a = b := by
  unfold sameV
  simp only [Bool.and_eq_true, beq_iff_eq, toList_inj]
  exact ⟨fun ⟨h1, h2, h3⟩ => V.ext' h1 h2 h3, fun h => by subst h; exact ⟨rfl, rfl, rfl⟩⟩
theorem shown_one {a b : V} (ha : rightB a = true) (hb : rightB b = true) : ((txt (showL a)).toList == (txt (showL b)).toList) = sameV a b := by
  rw [Bool.eq_iff_iff, sameV_iff, beq_iff_eq, toList_inj]
  constructor
  · intro h
    exact show_inj ha hb (by have := congrArg (fun s : ByteArray => s.data.toList) h; exact this)
  · intro h; rw [h]
end Go.Proofs.YtmlllgcmhapadaaDoor
