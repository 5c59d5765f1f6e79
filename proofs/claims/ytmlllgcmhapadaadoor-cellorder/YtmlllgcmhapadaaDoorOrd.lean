/- Tuples are in order just as their keys are, plainly. -/
import Derived.Test.YtmlllgcmhapadaaDoorCodec
import Derived.Test.YtmlllgcmhapadaaDoorOne
namespace Go.Proofs.YtmlllgcmhapadaaDoor
open Go

/-- The first of two that isn't 0. -/
def orI (a b : Int) : Int := if a = 0 then b else a
theorem orI_zero {a b : Int} : orI a b = 0 ↔ a = 0 ∧ b = 0 := by
  unfold orI; split
  · rename_i h; simp [h]
  · rename_i h; simp [h]
theorem orI_neg (a b : Int) : orI (-a) (-b) = -orI a b := by unfold orI; split <;> split <;> omega
theorem orI_ne {a : Int} (b : Int) (h : a ≠ 0) : orI a b = a := if_neg h
theorem orI_nil (b : Int) : orI 0 b = b := if_pos rfl
theorem orI_assoc (a b c : Int) : orI (orI a b) c = orI a (orI b c) := by
  by_cases h : a = 0
  · rw [h, orI_nil, orI_nil]
  · rw [orI_ne b h, orI_ne c h, orI_ne _ h]
abbrev cmpI (x y : Int) : Int := Lib.compareInt x y
abbrev cmpB (l m : List UInt8) : Int := Lib.compareBytes l m
def cmpV (a b : V) : Int := orI (cmpI a.k b.k) (orI (cmpI a.n b.n) (cmpB a.s.data.toList b.s.data.toList))
def cmpL : List V → List V → Int
  | [], [] => 0
  | [], _ :: _ => -1
  | _ :: _, [] => 1
  | x :: xs, y :: ys => orI (cmpV x y) (cmpL xs ys)
theorem cmpI_lt {x y : Int} (h : x < y) : cmpI x y = -1 := if_pos h
theorem cmpI_gt {x y : Int} (h : y < x) : cmpI x y = 1 := by
  show (if x < y then (-1 : Int) else if x > y then 1 else 0) = 1
  rw [if_neg (by omega), if_pos h]
theorem cmpI_eq {x y : Int} (h : x = y) : cmpI x y = 0 := by
  show (if x < y then (-1 : Int) else if x > y then 1 else 0) = 0
  rw [if_neg (by omega), if_neg (by omega)]
theorem cmpI_neg (x y : Int) : cmpI y x = -cmpI x y := by
  rcases Int.lt_trichotomy x y with h | h | h
  · rw [cmpI_lt h, cmpI_gt h]; rfl
  · rw [cmpI_eq h, cmpI_eq h.symm]; rfl
  · rw [cmpI_gt h, cmpI_lt h]
theorem cmpI_zero {x y : Int} : cmpI x y = 0 ↔ x = y := by
  rcases Int.lt_trichotomy x y with h | h | h
  · rw [cmpI_lt h]; constructor <;> intro h2 <;> omega
  · rw [cmpI_eq h]; simp [h]
  · rw [cmpI_gt h]; constructor <;> intro h2 <;> omega
theorem cmpB_cons (a b : UInt8) (l m : List UInt8) : cmpB (a :: l) (b :: m) = orI (cmpI a.toNat b.toNat) (cmpB l m) := by
  show (if a < b then (-1 : Int) else if b < a then 1 else Lib.compareBytes l m) = _
  by_cases h1 : a < b
  · have h1' : (a.toNat : Int) < b.toNat := by rw [UInt8.lt_iff_toNat_lt] at h1; omega
    rw [if_pos h1, cmpI_lt h1']; rfl
  · by_cases h2 : b < a
    · have h2' : (b.toNat : Int) < a.toNat := by rw [UInt8.lt_iff_toNat_lt] at h2; omega
      rw [if_neg h1, if_pos h2, cmpI_gt h2']; rfl
    · have h3 : (a.toNat : Int) = b.toNat := by rw [UInt8.lt_iff_toNat_lt] at h1 h2; omega
      rw [if_neg h1, if_neg h2, cmpI_eq h3]; rfl
theorem cmpB_neg : ∀ l m : List UInt8, cmpB m l = -cmpB l m
  | [], [] => rfl
  | [], _ :: _ => rfl
  | _ :: _, [] => rfl
  | a :: l, b :: m => by rw [cmpB_cons, cmpB_cons, cmpI_neg, cmpB_neg l m, orI_neg]
theorem cmpB_zero : ∀ {l m : List UInt8}, cmpB l m = 0 ↔ l = m
  | [], [] => by simp [Lib.compareBytes]
  | [], _ :: _ => by simp [Lib.compareBytes]
  | _ :: _, [] => by simp [Lib.compareBytes]
  | a :: l, b :: m => by
    rw [cmpB_cons, orI_zero, cmpI_zero, cmpB_zero (l := l) (m := m)]
    constructor
    · rintro ⟨h1, rfl⟩; rw [u8_ext (show a.toNat = b.toNat by omega)]
    · intro h; cases h; exact ⟨rfl, rfl⟩
theorem cmpV_neg (a b : V) : cmpV b a = -cmpV a b := by unfold cmpV; rw [cmpI_neg, cmpI_neg a.n, cmpB_neg, orI_neg, orI_neg]
theorem cmpV_zero {a b : V} : cmpV a b = 0 ↔ a = b := by
  unfold cmpV
  rw [orI_zero, orI_zero, cmpI_zero, cmpI_zero, cmpB_zero]
  exact ⟨fun ⟨h1, h2, h3⟩ => V.ext' h1 h2 (data_inj h3), fun h => by subst h; exact ⟨rfl, rfl, rfl⟩⟩
theorem cmpL_neg : ∀ l m : List V, cmpL m l = -cmpL l m
  | [], [] => rfl
  | [], _ :: _ => rfl
  | _ :: _, [] => rfl
  | a :: l, b :: m => by rw [cmpL, cmpL, cmpV_neg, cmpL_neg l m, orI_neg]
theorem cmpL_zero : ∀ {l m : List V}, cmpL l m = 0 ↔ l = m
  | [], [] => by simp [cmpL]
  | [], _ :: _ => by simp [cmpL]
  | _ :: _, [] => by simp [cmpL]
  | a :: l, b :: m => by
    rw [cmpL, orI_zero, cmpV_zero, cmpL_zero (l := l) (m := m)]
    constructor
    · rintro ⟨rfl, rfl⟩; rfl
    · intro h; cases h; exact ⟨rfl, rfl⟩
theorem less_cmp : ∀ l m : List UInt8, Op.bytesLess l m = decide (cmpB l m < 0)
  | [], [] => rfl
  | [], _ :: _ => rfl
  | _ :: _, [] => rfl
  | a :: l, b :: m => by
    rw [Op.bytesLess, less_cmp l m]
    show _ = decide ((if a < b then (-1 : Int) else if b < a then 1 else Lib.compareBytes l m) < 0)
    by_cases h1 : a < b
    · rw [if_pos h1]; simp [h1]
    · rw [if_neg h1]
      by_cases h2 : b < a
      · rw [if_pos h2]
        have : ¬ a = b := fun e => by subst e; exact absurd h2 (by simp)
        simp [h1, this]
      · rw [if_neg h2]
        have : a = b := u8_ext (by rw [UInt8.lt_iff_toNat_lt] at h1 h2; omega)
        simp [this]
/-- Numbers of one length. -/
theorem numL_cons (a : UInt8) (l : List UInt8) : numL (a :: l) = a.toNat * 256 ^ l.length + numL l := by
  have h : ∀ (l : List UInt8) (x : Nat), l.foldl (fun a b => a * 256 + b.toNat) x = x * 256 ^ l.length + numL l := by
    intro l
    induction l with
    | nil => intro x; simp [numL]
    | cons b l ih =>
      intro x
      have e : numL (b :: l) = l.foldl (fun a b => a * 256 + b.toNat) (0 * 256 + b.toNat) := rfl
      rw [List.foldl_cons, ih, e, ih, List.length_cons, Nat.pow_succ]
      generalize 256 ^ l.length = p
      rw [Nat.zero_mul, Nat.zero_add, Nat.add_mul, Nat.mul_assoc, Nat.mul_comm 256 p]
      omega
  have := h l (0 * 256 + a.toNat)
  have e : numL (a :: l) = l.foldl (fun a b => a * 256 + b.toNat) (0 * 256 + a.toNat) := rfl
  rw [e, this, Nat.zero_mul, Nat.zero_add]
theorem cmp_num : ∀ (l m r s : List UInt8), l.length = m.length → cmpB (l ++ r) (m ++ s) = orI (cmpI (numL l) (numL m)) (cmpB r s)
  | [], [], r, s, _ => rfl
  | a :: l, b :: m, r, s, h => by
    have hl : l.length = m.length := by simpa using h
    rw [List.cons_append, List.cons_append, cmpB_cons, cmp_num l m r s hl, ← orI_assoc, numL_cons, numL_cons, hl]
    congr 1
    have h1 := numL_lt l m.length (by omega)
    have h2 := numL_lt m m.length (Nat.le_refl _)
    generalize 256 ^ m.length = p at h1 h2
    generalize numL l = x at h1
    generalize numL m = y at h2
    rcases Nat.lt_trichotomy a.toNat b.toNat with hab | hab | hab
    · have := Nat.mul_le_mul_right p (show a.toNat + 1 ≤ b.toNat by omega)
      rw [Nat.add_mul] at this
      rw [cmpI_lt (show (a.toNat : Int) < b.toNat by omega), orI_ne _ (by decide), cmpI_lt (show ((a.toNat * p + x : Nat) : Int) < ((b.toNat * p + y : Nat) : Int) by omega)]
    · rw [hab, cmpI_eq rfl, orI_nil]
      rcases Nat.lt_trichotomy x y with hxy | hxy | hxy
      · rw [cmpI_lt (by omega), cmpI_lt (by omega)]
      · rw [hxy, cmpI_eq rfl, cmpI_eq rfl]
      · rw [cmpI_gt (by omega), cmpI_gt (by omega)]
    · have := Nat.mul_le_mul_right p (show b.toNat + 1 ≤ a.toNat by omega)
      rw [Nat.add_mul] at this
      rw [cmpI_gt (show (b.toNat : Int) < a.toNat by omega), orI_ne _ (by decide), cmpI_gt (show ((b.toNat * p + y : Nat) : Int) < ((a.toNat * p + x : Nat) : Int) by omega)]
theorem cmp_marked : ∀ (l m r s : List UInt8), cmpB (subst1 0 [0, 255] l ++ (0 :: 0 :: r)) (subst1 0 [0, 255] m ++ (0 :: 0 :: s)) = orI (cmpB l m) (cmpB r s)
  | [], [], r, s => rfl
  | [], b :: m, r, s => by
    rw [subst1_cons, subst1_nil]
    by_cases hb : b = 0
    · rw [if_pos hb]; rfl
    · rw [if_neg hb]
      show cmpB (0 :: 0 :: r) (b :: _) = orI (-1) _
      rw [cmpB_cons]
      have : b.toNat ≠ 0 := fun e => hb (u8_ext e)
      have hc : cmpI (((0 : UInt8).toNat : Nat) : Int) (b.toNat : Int) = -1 := cmpI_lt (show ((0 : Nat) : Int) < (b.toNat : Int) by omega)
      rw [hc]; rfl
  | a :: l, [], r, s => by
    rw [subst1_cons, subst1_nil]
    by_cases ha : a = 0
    · rw [if_pos ha]; rfl
    · rw [if_neg ha]
      show cmpB (a :: _) (0 :: 0 :: s) = orI 1 _
      rw [cmpB_cons]
      have : a.toNat ≠ 0 := fun e => ha (u8_ext e)
      have hc : cmpI (a.toNat : Int) (((0 : UInt8).toNat : Nat) : Int) = 1 := cmpI_gt (show ((0 : Nat) : Int) < (a.toNat : Int) by omega)
      rw [hc]; rfl
  | a :: l, b :: m, r, s => by
    have ih := cmp_marked l m r s
    rw [subst1_cons, subst1_cons, cmpB_cons, orI_assoc, ← ih]
    by_cases ha : a = 0
    · by_cases hb : b = 0
      · rw [if_pos ha, if_pos hb, ha, hb]; rfl
      · rw [if_pos ha, if_neg hb, ha]
        show cmpB (0 :: _) (b :: _) = _
        rw [cmpB_cons]
        have : b.toNat ≠ 0 := fun e => hb (u8_ext e)
        have hc : cmpI (((0 : UInt8).toNat : Nat) : Int) (b.toNat : Int) = -1 := cmpI_lt (show ((0 : Nat) : Int) < (b.toNat : Int) by omega)
        rw [hc]; rfl
    · by_cases hb : b = 0
      · rw [if_neg ha, if_pos hb, hb]
        show cmpB (a :: _) (0 :: _) = _
        rw [cmpB_cons]
        have : a.toNat ≠ 0 := fun e => ha (u8_ext e)
        have hc : cmpI (a.toNat : Int) (((0 : UInt8).toNat : Nat) : Int) = 1 := cmpI_gt (show ((0 : Nat) : Int) < (a.toNat : Int) by omega)
        rw [hc]; rfl
      · rw [if_neg ha, if_neg hb]
        show cmpB (a :: _) (b :: _) = _
        rw [cmpB_cons]
        rfl
theorem numK_cmp {m n : Int} (h0 : -9223372036854775808 ≤ m) (h1 : -9223372036854775808 ≤ n) : cmpI (numK m) (numK n) = cmpI m n := by
  unfold numK
  rcases Int.lt_trichotomy m n with h | h | h
  · rw [cmpI_lt h, cmpI_lt (by omega)]
  · rw [cmpI_eq h, h, cmpI_eq rfl]
  · rw [cmpI_gt h, cmpI_gt (by omega)]
theorem keyV_head (v : V) : keyV v = UInt8.ofNat (v.k.toNat + 1) :: bodyK v := rfl
theorem cmp_heads {a b : V} (ha : rightB a = true) (hb : rightB b = true) : cmpI ((UInt8.ofNat (a.k.toNat + 1)).toNat : Int) ((UInt8.ofNat (b.k.toNat + 1)).toNat : Int) = cmpI a.k b.k := by
  rw [UInt8.toNat_ofNat', UInt8.toNat_ofNat']
  have h1 : 0 ≤ a.k ∧ a.k ≤ 4 := by rcases right_cases ha with ⟨h, _⟩ | ⟨h, _⟩ | ⟨h, _⟩ | ⟨h, _⟩ | ⟨h, _⟩ <;> omega
  have h2 : 0 ≤ b.k ∧ b.k ≤ 4 := by rcases right_cases hb with ⟨h, _⟩ | ⟨h, _⟩ | ⟨h, _⟩ | ⟨h, _⟩ | ⟨h, _⟩ <;> omega
  rcases Int.lt_trichotomy a.k b.k with h | h | h
  · rw [cmpI_lt h, cmpI_lt (by omega)]
  · rw [cmpI_eq h, h, cmpI_eq rfl]
  · rw [cmpI_gt h, cmpI_gt (by omega)]
theorem cmp_keyV {a b : V} (ha : rightB a = true) (hb : rightB b = true) (oa : a.ok) (ob : b.ok) (r s : List UInt8) : cmpB (keyV a ++ r) (keyV b ++ s) = orI (cmpV a b) (cmpB r s) := by
  rw [keyV_head, keyV_head, List.cons_append, List.cons_append, cmpB_cons, cmp_heads ha hb]
  unfold cmpV
  rw [orI_assoc, orI_assoc]
  by_cases hk : a.k = b.k
  · rw [cmpI_eq hk, orI_nil, orI_nil]
    unfold bodyK
    rw [← hk]
    rcases right_cases ha with ⟨h1, h2, h3⟩ | ⟨h1, h2⟩ | ⟨h1, h2, h3⟩ | ⟨h1, h2, h3⟩ | ⟨h1, h2, h3⟩ <;>
      rcases right_cases hb with ⟨g1, g2, g3⟩ | ⟨g1, g2⟩ | ⟨g1, g2, g3⟩ | ⟨g1, g2, g3⟩ | ⟨g1, g2, g3⟩ <;>
      first
      | (exfalso; omega)
      | skip
    · rw [if_neg (by omega), if_neg (by omega), if_neg (by omega), if_neg (by omega), if_neg (by omega), if_neg (by omega), h2, g2, cmpI_eq rfl, orI_nil, h3, g3]
      rfl
    · rw [if_pos h1, if_pos h1, h2, g2, cmp_num _ _ _ _ (by rw [be8_length, be8_length]), numL_be8 _ (numK_lt _ oa.2.2.2), numL_be8 _ (numK_lt _ ob.2.2.2), numK_cmp oa.2.2.1 ob.2.2.1]
      rfl
    · rw [if_neg (by omega), if_pos h1, if_neg (by omega), if_pos h1, h3, g3]
      rcases h2 with h2 | h2 <;> rcases g2 with g2 | g2 <;> rw [h2, g2] <;> rfl
    · rw [if_neg (by omega), if_neg (by omega), if_pos (.inl h1), if_neg (by omega), if_neg (by omega), if_pos (.inl h1), h2, g2, cmpI_eq rfl, orI_nil]
      unfold marked
      rw [List.append_assoc, List.append_assoc]
      exact cmp_marked _ _ _ _
    · rw [if_neg (by omega), if_neg (by omega), if_pos (.inr h1), if_neg (by omega), if_neg (by omega), if_pos (.inr h1), h2, g2, cmpI_eq rfl, orI_nil]
      unfold marked
      rw [List.append_assoc, List.append_assoc]
      exact cmp_marked _ _ _ _
  · have hne : cmpI a.k b.k ≠ 0 := fun h => hk (cmpI_zero.1 h)
    rw [orI_ne _ hne, orI_ne _ hne]
/-- Keys are in order as tuples are. -/
theorem cmp_keyL : ∀ (xs ys : List V), xs.all rightB = true → ys.all rightB = true → (∀ x ∈ xs, x.ok) → (∀ y ∈ ys, y.ok) → cmpB (keyL xs) (keyL ys) = cmpL xs ys
  | [], [], _, _, _, _ => rfl
  | [], y :: ys, _, _, _, _ => rfl
  | x :: xs, [], _, _, _, _ => rfl
  | x :: xs, y :: ys, hx, hy, ox, oy => by
    simp only [List.all_cons, Bool.and_eq_true] at hx hy
    have ih := cmp_keyL xs ys hx.2 hy.2 (fun z hz => ox z (by simp [hz])) (fun z hz => oy z (by simp [hz]))
    show cmpB (keyV x ++ keyL xs) (keyV y ++ keyL ys) = orI (cmpV x y) (cmpL xs ys)
    rw [cmp_keyV hx.1 hy.1 (ox x (by simp)) (oy y (by simp)), ih]
theorem writeL_inj {xs ys : List V} (hx : tupleB xs = true) (hy : tupleB ys = true) (ox : ∀ x ∈ xs, x.ok) (oy : ∀ y ∈ ys, y.ok) (h : writeL xs = writeL ys) : xs = ys := by
  have h1 := read_write xs hx ox
  have h2 := read_write ys hy oy
  rw [h, h2] at h1
  exact (Option.some.inj h1).symm
end Go.Proofs.YtmlllgcmhapadaaDoor
