/- The walks of the document's at, Used, step, New. -/
import Derived.Test.YtceejjocimgbmaaRefBase
namespace Go.Proofs.Ytceejjocimgbmaa
open Go Go.RowKit Go.Maps

/-- The first place of a name, if any. -/
def Place (n : List UInt8) (xs : List Fl) (k : Nat) : Prop := k ≤ xs.length ∧ (∀ j, j < k → (at_ xs j).1 ≠ n) ∧ (k < xs.length → (at_ xs k).1 = n)
theorem place_some {n : List UInt8} {x : List UInt8 × Nat} : ∀ {xs : List Fl}, look n xs = some x → ∃ k, Place n xs k ∧ k < xs.length ∧ at_ xs k = (n, x)
  | [], h => by cases h
  | p :: r, h => by
    unfold look at h
    split at h
    · rename_i e
      cases h
      refine ⟨0, ⟨Nat.zero_le _, fun j hj => by omega, fun _ => e⟩, by simp, ?_⟩
      show p = (n, p.2)
      rw [← e]
    · rename_i e
      obtain ⟨k, ⟨h1, h2, h3⟩, h4, h5⟩ := place_some h
      refine ⟨k + 1, ⟨by simp; omega, fun j hj => ?_, fun _ => h3 h4⟩, by simp; omega, h5⟩
      cases j with
      | zero => exact e
      | succ j => exact h2 j (by omega)
theorem place_none {n : List UInt8} {xs : List Fl} (h : look n xs = none) : Place n xs xs.length := by
  refine ⟨Nat.le_refl _, fun j hj => ?_, fun h => absurd h (by omega)⟩
  rw [at_get hj]
  exact look_none h _ (List.getElem_mem hj)

def placeC (k len : Nat) : Int := if k < len then (k : Int) else -1
theorem str_ne {a b : ByteArray} (h : a.data.toList ≠ b.data.toList) : (a.toList == b.toList) = false := by
  rw [ByteArray.toList_eq, ByteArray.toList_eq, beq_eq_false_iff_ne]; exact h
set_option maxRecDepth 100000 in
set_option maxHeartbeats 1000000 in
theorem rat_any {w : World} {d : Nat} {l : Lg} {v : Value} (h : RAt w d l v) (n : ByteArray) (k : Nat) (hk : Place n.data.toList l.fs k) (hlen : l.fs.length ≤ 1000000) :
    Calls Try.prog 41 #[dp d, .string n] w fun e w' => e = .returned (.int .i64 (placeC k l.fs.length)) ∧ w' = w := by
  have c0 := h.c0
  obtain ⟨a, cap, rfl, hR, -⟩ := h.rd
  have HR := Lib.hid hR
  have HK := Lib.hid hk
  have hk0 := hk.1
  clear h hR hk
  unfold dp
  generalize hxs : l.fs = xs at *
  clear hxs
  have hlI : (xs.length : Int) ≤ 1000000 := by omega
  go_enter Try.func41, Try.ntmps41
  go_wp2
  go_loop [5] (fun i => ∃ (ii : Nat), i = .int .i64 (ii : Int) ∧ ii ≤ k) (fun i => k - (intOf i).toNat)
  case atStart => exact ⟨0, rfl, Nat.zero_le _⟩
  case round =>
    obtain ⟨ii, rfl, hi⟩ := hrel
    by_cases hlt : ii < k
    · have hlt' : (ii : Int) < (xs.length : Int) := by omega
      have hi0 : (0 : Int) ≤ (ii : Int) := by omega
      obtain ⟨b, off, rfl, k1, -, -⟩ := HR.out ii (by omega)
      have hne := str_ne (a := txt (at_ xs ii).1) (b := n) (HK.out.2.1 ii hlt)
      generalize txt (at_ xs ii).1 = s at *
      go_wp2
      go_round
      case rel => exact ⟨ii + 1, by go_num, by omega⟩
      case measure => simp [intOf]; omega
    · obtain rfl : ii = k := by omega
      by_cases hkl : ii < xs.length
      · have HP := Lib.hid (show placeC ii xs.length = (ii : Int) from if_pos hkl)
        have hlt' : (ii : Int) < (xs.length : Int) := by omega
        have hi0 : (0 : Int) ≤ (ii : Int) := by omega
        obtain ⟨b, off, rfl, k1, -, -⟩ := HR.out ii hkl
        rw [HK.out.2.2 hkl, txt_data] at k1
        go_wp2
        go_ret
        exact ⟨ret_int HP.out.symm, rfl⟩
      · have HP := Lib.hid (show placeC ii xs.length = -1 from if_neg hkl)
        have hlt' : (xs.length : Int) ≤ (ii : Int) := by omega
        go_wp2
        go_ret
        exact ⟨ret_int HP.out.symm, rfl⟩

def usedN (xs : List Fl) : Nat := (xs.map fun p => p.2.1.length).sum
theorem usedN_snoc (xs : List Fl) (p : Fl) : usedN (xs ++ [p]) = usedN xs + p.2.1.length := by simp [usedN]
theorem usedN_take (xs : List Fl) (i : Nat) : usedN (xs.take i) ≤ usedN xs := by
  have : usedN xs = usedN (xs.take i) + usedN (xs.drop i) := by
    unfold usedN; rw [← List.sum_append, ← List.map_append, List.take_append_drop]
  omega
set_option maxRecDepth 100000 in
set_option maxHeartbeats 1000000 in
theorem rused_any {w : World} {d : Nat} {l : Lg} {v : Value} (h : RAt w d l v) (hlen : l.fs.length ≤ 1000000) (hu : l.used ≤ 1073741824) :
    Calls Try.prog 35 #[dp d] w fun e w' => e = .returned (.int .i64 (l.used : Int)) ∧ w' = w := by
  have c0 := h.c0
  obtain ⟨a, cap, rfl, hR, -⟩ := h.rd
  have HR := Lib.hid hR
  have hu : usedN l.fs ≤ 1073741824 := hu
  rw [show l.used = usedN l.fs from rfl]
  clear h hR
  unfold dp
  generalize hxs : l.fs = xs at *
  clear hxs
  have hlI : (xs.length : Int) ≤ 1000000 := by omega
  go_enter Try.func35, Try.ntmps35
  go_wp2
  go_loop [3, 4] (fun n i => ∃ (ii m : Nat), i = .int .i64 (ii : Int) ∧ ii ≤ xs.length ∧ n = .int .i64 (m : Int) ∧ Hid (m = usedN (xs.take ii))) (fun _ i => xs.length - (intOf i).toNat)
  case atStart => exact ⟨0, 0, rfl, Nat.zero_le _, rfl, Lib.hid (by simp [usedN])⟩
  case round =>
    obtain ⟨ii, m, rfl, hi, rfl, HM⟩ := hrel
    by_cases hlt : ii < xs.length
    · have hlt' : (ii : Int) < (xs.length : Int) := by omega
      have hi0 : (0 : Int) ≤ (ii : Int) := by omega
      obtain ⟨b, off, rfl, -, k1, -⟩ := HR.out ii hlt
      have hs := usedN_snoc (xs.take ii) (at_ xs ii)
      rw [← take_at hlt, ← HM.out] at hs
      have hs2 := usedN_take xs (ii + 1)
      rw [← txt_size] at hs
      generalize txt (at_ xs ii).2.1 = s at *
      have hb : (m : Int) + (s.size : Int) ≤ 1073741824 := by omega
      have HS := Lib.hid hs
      clear hs hs2 HM
      go_wp2
      go_round
      case rel => exact ⟨ii + 1, m + s.size, by go_num, by omega, by go_num, Lib.hid HS.out.symm⟩
      case measure => simp [intOf]; omega
    · have hlt' : (xs.length : Int) ≤ (ii : Int) := by omega
      have HE : Hid (m = usedN xs) := Lib.hid (by rw [HM.out, List.take_of_length_le (by omega)])
      clear HM
      go_wp2
      go_ret
      exact ⟨ret_int (by rw [HE.out]), rfl⟩
theorem rfuel_step (l : Lg) (h : l.lim = true → 0 ≤ l.fuel) : (l.go = true ∧ l.rfuel < 0 ∧ l.step = l) ∨ (l.go = true ∧ 0 < l.rfuel ∧ l.step = { l with fuel := l.fuel - 1 } ∧ l.lim = true ∧ l.rfuel = l.fuel) ∨ (l.go = false ∧ l.rfuel = 0 ∧ l.step = { l with down := true }) := by
  unfold Lg.go Lg.rfuel Lg.step
  cases hl : l.lim with
  | false => exact .inl ⟨rfl, by simp, rfl⟩
  | true =>
    have := h hl
    by_cases hp : 0 < l.fuel
    · exact .inr (.inl ⟨by simp [hp], by simpa using hp, by simp [hp], rfl, by simp⟩)
    · exact .inr (.inr ⟨by simp [hp], by simp; omega, by simp [hp]⟩)
set_option maxRecDepth 100000 in
set_option maxHeartbeats 1000000 in
theorem rstep_any {w : World} {d : Nat} {l : Lg} {v : Value} (h : RAt w d l v) (ho : l.Ok) :
    Calls Try.prog 40 #[dp d] w fun e w' => e = .returned (.int .i64 (if l.go then 0 else 3)) ∧ RAt w' d l.step v ∧ Ch (fun k => k = d) w w' := by
  have c2 := h.c2
  have c3 := h.c3
  have f2 := h.fr 2
  have f3 := h.fr 3
  have hfu := ho.fuel
  have H := Lib.hid h
  have hne := h.ne
  have HN := Lib.hid hne
  clear h hne
  unfold dp
  rcases rfuel_step l ho.lim with ⟨hg, hr, hs⟩ | ⟨hg, hr, hs, hl, hf⟩ | ⟨hg, hr, hs⟩
  · rw [hg, hs]
    have hr' : ¬ l.rfuel = 0 := by omega
    have hr2 : l.rfuel ≤ 0 := by omega
    clear ho hfu hg hs
    go_enter Try.func40, Try.ntmps40
    go_wp2
    go_ret
    exact ⟨rfl, H.out, Ch.refl _ _⟩
  · rw [hg, hs]
    have hr' : ¬ l.rfuel = 0 := by omega
    have hb : l.rfuel ≤ 9223372036854775807 := by omega
    have HF := Lib.hid (show ({ l with fuel := l.fuel - 1 } : Lg).rfuel = l.rfuel - 1 by unfold Lg.rfuel; simp [hl])
    clear ho hfu hg hs hl hf
    go_enter Try.func40, Try.ntmps40
    go_wp2
    go_ret
    refine ⟨rfl, ⟨?_, H.out.own.keep (Ch.set1 w d 2 _) fun k hk e => HN.out (e ▸ hk)⟩, Ch.setCell _ _ _ fun _ => rfl⟩
    rw [show ({ l with fuel := l.fuel - 1 } : Lg).rcells v = (l.rcells v).setIfInBounds 2 (.int .i64 (l.rfuel - 1)) by unfold Lg.rcells; rw [HF.out]; rfl]
    exact H.out.set 2 _
  · rw [hg, hs]
    clear ho hfu hg hs
    rw [hr] at c2
    go_enter Try.func40, Try.ntmps40
    go_wp2
    go_ret
    exact ⟨rfl, ⟨H.out.set 3 _, H.out.own.keep (Ch.set1 w d 3 _) fun k hk e => HN.out (e ▸ hk)⟩, Ch.setCell _ _ _ fun _ => rfl⟩
set_option maxRecDepth 100000 in
theorem rnew_any (w : World) (n : Int) : Calls Try.prog 12 #[.int .i64 n] w fun e w' => e = .returned (dp w.heap.size) ∧ RAt w' w.heap.size ⟨n, false, false, 0, []⟩ (.slice none 0 0) ∧ Below w.heap.size w w' ∧ w'.heap.size = w.heap.size + 1 := by
  go_enter Try.func12, Try.ntmps12
  go_wp2
  go_ret
  exact ⟨rfl, ⟨heap_alloc_new _ _, OwF.nil _ _⟩, (Below.refl _ _).alloc (Nat.le_refl _) _, by simp⟩
end Go.Proofs.Ytceejjocimgbmaa
