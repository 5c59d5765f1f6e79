/- The log, plainly; what each call makes of it; isCutOff. -/
import Derived.Test.YtogihpofkjpokaaGreatDoorCSt
namespace Go.Proofs.YtogihpofkjpokaaGreatDoor
open Go Go.RowKit Go.Maps
open D4 (put Asc look_mem asc_ext Lg)
open F5 (txt frameL flat firstL Scanned)

abbrev sha : (List UInt8) → (List UInt8) := S1.shaL
/-- A payload that a store leaves. -/
def Pl (x : List UInt8) : Prop := ∃ t : List UInt8, t.length ≤ 1000 ∧ (x = 99 :: t ∨ x = 114 :: t)
def PlC (x : List UInt8) : Prop := ∃ t : List UInt8, t.length ≤ 1000 ∧ x = 99 :: t
theorem PlC.pl {x : List UInt8} (h : PlC x) : Pl x := by obtain ⟨t, h1, h2⟩ := h; exact ⟨t, h1, .inl h2⟩
theorem Pl.len {x : List UInt8} (h : Pl x) : 1 ≤ x.length ∧ x.length ≤ 1001 := by
  obtain ⟨t, h1, rfl | rfl⟩ := h <;> simp <;> omega
def isR (x : List UInt8) : Bool := match x with | [] => false | b :: _ => b == 114
/-- What a payload adds: root, kept, bytes of what is kept. -/
def stepP (q : (List UInt8) × Tx × Nat) (x : List UInt8) : (List UInt8) × Tx × Nat := match x with
  | [] => q
  | b :: t => if b = 114 then (t, q.2) else (q.1, put (sha t) t q.2.1, q.2.2 + (12 + (t.length + 1)))
def readP (ys : List (List UInt8)) : (List UInt8) × Tx × Nat := ys.foldl stepP ([], [], 0)
def Sealed (ys : List (List UInt8)) : Prop := ys = [] ∨ ∃ zs t, ys = zs ++ [114 :: t]
/-- The beginning of a frame. -/
def CutOff (b : List UInt8) : Prop := ∃ p j, Pl p ∧ j < (frameL p).length ∧ b = (frameL p).take j
theorem CutOff.nil : CutOff [] := ⟨[99], 0, ⟨[], by simp, .inl rfl⟩, by rw [F5.frameL_length]; simp, rfl⟩
theorem CutOff.first {b : List UInt8} (h : CutOff b) : firstL b = none := by
  obtain ⟨p, j, hp, hj, rfl⟩ := h
  rw [F5.frameL_length] at hj
  exact F5.first_cut p (by have := hp.len; omega) j hj
theorem CutOff.len {b : List UInt8} (h : CutOff b) : b.length ≤ 1012 := by
  obtain ⟨p, j, hp, hj, rfl⟩ := h
  rw [F5.frameL_length] at hj
  have := hp.len
  rw [List.length_take, F5.frameL_length]; omega
/-- Frames, cut off. -/
theorem cut_flat : ∀ (zs : List (List UInt8)), (∀ z ∈ zs, Pl z) → ∀ m, m < (flat zs).length → ∃ k b, k < zs.length ∧ CutOff b ∧ (flat zs).take m = flat (zs.take k) ++ b
  | [], _, m, h => by simp [F5.flat_nil] at h
  | z :: zs, hz, m, h => by
    by_cases hm : m < (frameL z).length
    · refine ⟨0, (frameL z).take m, by simp, ⟨z, m, hz z (by simp), hm, rfl⟩, ?_⟩
      rw [F5.flat_cons, List.take_append_of_le_length (by omega)]
      simp [F5.flat_nil]
    · rw [F5.flat_cons, List.length_append] at h
      obtain ⟨k, b, hk, hb, e⟩ := cut_flat zs (fun x hx => hz x (by simp [hx])) (m - (frameL z).length) (by omega)
      refine ⟨k + 1, b, by simp; omega, hb, ?_⟩
      rw [F5.flat_cons, List.take_append, List.take_of_length_le (by omega), e, List.take_succ_cons, F5.flat_cons, List.append_assoc]
theorem scanned_of {xs : List (List UInt8)} {b : List UInt8} (hx : ∀ x ∈ xs, Pl x) (hb : CutOff b) : Scanned (flat xs ++ b) xs := ⟨b, rfl, hb.first, fun x h => by have := (hx x h).len; omega⟩

/-- A text that begins with whole frames of payloads and one that is cut off. -/
def Pre (b : List UInt8) : Prop := ∃ xs c, (∀ x ∈ xs, Pl x) ∧ CutOff c ∧ b = flat xs ++ c
theorem Pre.nil : Pre [] := ⟨[], [], by simp, CutOff.nil, rfl⟩
theorem Pre.flat {zs : List (List UInt8)} (h : ∀ z ∈ zs, Pl z) : Pre (flat zs) := ⟨zs, [], h, CutOff.nil, by simp⟩
theorem take_cut {b : List UInt8} (h : CutOff b) (k : Nat) : CutOff (b.take k) := by
  obtain ⟨p, j, hp, hj, rfl⟩ := h
  refine ⟨p, min k j, hp, by omega, ?_⟩
  rw [List.take_take]
theorem Pre.take {b : List UInt8} (h : Pre b) (k : Nat) : Pre (b.take k) := by
  obtain ⟨xs, c, hx, hc, rfl⟩ := h
  by_cases hk : k < (F5.flat xs).length
  · obtain ⟨i, d, hi, hd, e⟩ := cut_flat xs hx k hk
    rw [List.take_append_of_le_length (by omega), e]
    exact ⟨xs.take i, d, fun x h => hx x (List.mem_of_mem_take h), hd, rfl⟩
  · rw [List.take_append, List.take_of_length_le (by omega)]
    exact ⟨xs, c.take _, hx, take_cut hc _, rfl⟩

/-- What a log's bytes say. -/
def LogAt (D root : List UInt8) (kept : Tx) (live : Nat) (torn : Bool) : Prop :=
  ∃ ys cs c, (∀ y ∈ ys, Pl y) ∧ Sealed ys ∧ (∀ x ∈ cs, PlC x) ∧ CutOff c ∧ D = flat (ys ++ cs) ++ c ∧ readP ys = (root, kept, live) ∧ torn = (decide (0 < cs.length) || decide (c ≠ []))
theorem LogAt.pre {D root : List UInt8} {kept : Tx} {live : Nat} {torn : Bool} (h : LogAt D root kept live torn) : Pre D := by
  obtain ⟨ys, cs, c, hy, _, hc, hcc, rfl, _⟩ := h
  refine ⟨ys ++ cs, c, fun x hx => ?_, hcc, rfl⟩
  rcases List.mem_append.1 hx with hx | hx
  · exact hy x hx
  · exact (hc x hx).pl
theorem LogAt.nil : LogAt [] [] [] 0 false := ⟨[], [], [], by simp, .inl rfl, by simp, CutOff.nil, rfl, rfl, rfl⟩
/-- What is sealed, seen from the end. -/
theorem sealed_len {ys cs : List (List UInt8)} (hs : Sealed ys) (hc : ∀ x ∈ cs, PlC x) (n : Nat) (hn : n ≤ (ys ++ cs).length) (h1 : ∀ i, n ≤ i → (h : i < (ys ++ cs).length) → isR (ys ++ cs)[i] = false) (h2 : n = 0 ∨ isR ((ys ++ cs).getD (n - 1) []) = true) : n = ys.length := by
  rcases Nat.lt_trichotomy n ys.length with h | h | h
  · rcases hs with rfl | ⟨zs, t, rfl⟩
    · simp at h
    · have hl : zs.length < ((zs ++ [114 :: t]) ++ cs).length := by simp
      have := h1 zs.length (by rw [List.length_append, List.length_singleton] at h; omega) hl
      rw [List.getElem_append_left (by simp), List.getElem_append_right (by omega)] at this
      simp [isR] at this
  · exact h
  · exfalso
    rcases h2 with rfl | h2
    · simp at h
    · have hl : n - 1 < (ys ++ cs).length := by omega
      have hl2 : n - 1 - ys.length < cs.length := by rw [List.length_append] at hl; omega
      rw [List.getD_eq_getElem?_getD, List.getElem?_eq_getElem hl, Option.getD_some, List.getElem_append_right (by omega)] at h2
      obtain ⟨t, _, e⟩ := hc _ (List.getElem_mem hl2)
      rw [e] at h2
      simp [isR] at h2

/-! what is read -/
def KeyOK (l : Tx) : Prop := ∀ p ∈ l, p.1 = sha p.2 ∧ p.2.length ≤ 1000
theorem KeyOK.nil : KeyOK [] := fun p h => by cases h
theorem KeyOK.put {l : Tx} (h : KeyOK l) {t : List UInt8} (ht : t.length ≤ 1000) : KeyOK (put (sha t) t l) := fun p hp => by
  rcases D4.mem_put hp with rfl | hp
  · exact ⟨rfl, ht⟩
  · exact h p hp
theorem liveK_put (n t : List UInt8) : ∀ l : Tx, liveK (put n t l) ≤ liveK l + (13 + t.length)
  | [] => by simp [D4.put, liveK]
  | p :: r => by
    have ih := liveK_put n t r
    unfold D4.put
    unfold liveK at ih ⊢
    split
    · simp only [List.map_cons, List.sum_cons]; omega
    · split
      · simp only [List.map_cons, List.sum_cons]; omega
      · simp only [List.map_cons, List.sum_cons]; omega
/-- What payloads lead to keeps this. -/
structure RQ (q : (List UInt8) × Tx × Nat) : Prop where
  asc : Asc q.2.1
  key : KeyOK q.2.1
  live : liveK q.2.1 ≤ q.2.2
  root : q.1.length ≤ 1000
theorem RQ.step {q : (List UInt8) × Tx × Nat} (h : RQ q) {x : List UInt8} (hx : Pl x) : RQ (stepP q x) := by
  obtain ⟨t, ht, rfl | rfl⟩ := hx
  · have e : stepP q (99 :: t) = (q.1, put (sha t) t q.2.1, q.2.2 + (12 + (t.length + 1))) := rfl
    rw [e]
    refine ⟨D4.put_asc h.asc, h.key.put ht, ?_, h.root⟩
    have h1 := liveK_put (sha t) t q.2.1
    have h2 := h.live
    simp only; omega
  · exact ⟨h.asc, h.key, h.live, ht⟩
theorem RQ.fold : ∀ {ys : List (List UInt8)} {q : (List UInt8) × Tx × Nat}, RQ q → (∀ y ∈ ys, Pl y) → RQ (ys.foldl stepP q)
  | [], _, h, _ => h
  | y :: ys, q, h, hy => RQ.fold (ys := ys) (q := stepP q y) (h.step (hy y (by simp))) fun z hz => hy z (by simp [hz])
theorem RQ.read {ys : List (List UInt8)} (hy : ∀ y ∈ ys, Pl y) : RQ (readP ys) := RQ.fold ⟨List.Pairwise.nil, KeyOK.nil, Nat.le_refl _, by simp⟩ hy
theorem LogAt.rq {D root : List UInt8} {kept : Tx} {live : Nat} {torn : Bool} (h : LogAt D root kept live torn) : RQ (root, kept, live) := by
  obtain ⟨ys, cs, c, hy, _, _, _, _, e, _⟩ := h
  rw [← e]; exact RQ.read hy
/-- Chunks put into a pile, in turn. -/
def putAll (k f : Tx) : Tx := f.foldl (fun k p => put p.1 p.2 k) k
theorem fold_chunks : ∀ (f : Tx) (q : (List UInt8) × Tx × Nat), KeyOK f → (f.map fun p => (99 :: p.2 : List UInt8)).foldl stepP q = (q.1, putAll q.2.1 f, q.2.2 + liveK f)
  | [], q, _ => by simp [putAll, liveK]
  | p :: f, q, h => by
    have e : stepP q (99 :: p.2) = (q.1, put p.1 p.2 q.2.1, q.2.2 + (12 + (p.2.length + 1))) := by rw [(h p (by simp)).1]; rfl
    rw [List.map_cons, List.foldl_cons, e, fold_chunks f _ fun x hx => h x (by simp [hx])]
    simp only [putAll, List.foldl_cons, liveK, List.map_cons, List.sum_cons]
    rw [show q.2.2 + (12 + (p.2.length + 1)) + (f.map fun p => 13 + p.2.length).sum = q.2.2 + (13 + p.2.length + (f.map fun p => 13 + p.2.length).sum) by omega]
/-- The payloads of a batch. -/
def batchP (f : Tx) (root : List UInt8) : List (List UInt8) := (f.map fun p => (99 :: p.2 : List UInt8)) ++ [114 :: root]
theorem batch_flat (f : Tx) (root : List UInt8) : batchL f root = flat (batchP f root) := by
  unfold batchL batchP framesL fr
  rw [F5.flat_append, F5.flat_cons, F5.flat_nil, List.append_nil]
theorem batch_pl {f : Tx} {root : List UInt8} (h : KeyOK f) (hr : root.length ≤ 1000) : ∀ x ∈ batchP f root, Pl x := fun x hx => by
  unfold batchP at hx
  rcases List.mem_append.1 hx with hx | hx
  · obtain ⟨p, hp, rfl⟩ := List.mem_map.1 hx
    exact ⟨p.2, (h p hp).2, .inl rfl⟩
  · rw [List.mem_singleton.1 hx]; exact ⟨root, hr, .inr rfl⟩
theorem fold_batch (f : Tx) (root : List UInt8) (q : (List UInt8) × Tx × Nat) (h : KeyOK f) : (batchP f root).foldl stepP q = (root, putAll q.2.1 f, q.2.2 + liveK f) := by
  unfold batchP
  rw [List.foldl_append, fold_chunks f q h]
  rfl
theorem batch_sealed (f : Tx) (root : List UInt8) (ys : List (List UInt8)) : Sealed (ys ++ batchP f root) := .inr ⟨ys ++ f.map fun p => (99 :: p.2 : List UInt8), root, by unfold batchP; rw [List.append_assoc]⟩
/-- A batch behind a whole log. -/
theorem LogAt.ext {D root r : List UInt8} {kept f : Tx} {live : Nat} (h : LogAt D root kept live false) (hf : KeyOK f) (hr : r.length ≤ 1000) : LogAt (D ++ batchL f r) r (putAll kept f) (live + liveK f) false := by
  obtain ⟨ys, cs, c, hy, hs, hc, hcc, rfl, e, ht⟩ := h
  have ht := ht.symm
  simp only [Bool.or_eq_false_iff, decide_eq_false_iff_not, Decidable.not_not] at ht
  have h0 : cs = [] := List.length_eq_zero_iff.1 (by omega)
  rw [h0, ht.2, List.append_nil, List.append_nil, batch_flat, ← F5.flat_append]
  refine ⟨ys ++ batchP f r, [], [], fun y h => ?_, batch_sealed _ _ _, by simp, CutOff.nil, by simp, ?_, rfl⟩
  · rcases List.mem_append.1 h with h | h
    · exact hy y h
    · exact batch_pl hf hr y h
  · unfold readP at e ⊢
    rw [List.foldl_append, e, fold_batch f r _ hf]
/-- .. that is cut off. -/
theorem LogAt.half {D root r : List UInt8} {kept f : Tx} {live : Nat} (h : LogAt D root kept live false) (hf : KeyOK f) (hr : r.length ≤ 1000) (m : Nat) (hm : m < (batchL f r).length) : ∃ torn, LogAt (D ++ (batchL f r).take m) root kept live torn := by
  obtain ⟨ys, cs, c, hy, hs, hc, hcc, rfl, e, ht⟩ := h
  have ht := ht.symm
  simp only [Bool.or_eq_false_iff, decide_eq_false_iff_not, Decidable.not_not] at ht
  have h0 : cs = [] := List.length_eq_zero_iff.1 (by omega)
  rw [h0, ht.2, List.append_nil, List.append_nil]
  rw [batch_flat] at hm ⊢
  obtain ⟨k, b, hk, hb, e2⟩ := cut_flat _ (batch_pl hf hr) m hm
  rw [e2, ← List.append_assoc, ← F5.flat_append]
  refine ⟨_, ys, (batchP f r).take k, b, hy, hs, fun x hx => ?_, hb, rfl, e, rfl⟩
  unfold batchP at hk hx
  rw [List.length_append, List.length_singleton] at hk
  rw [List.take_append_of_le_length (by omega)] at hx
  obtain ⟨p, hp, rfl⟩ := List.mem_map.1 (List.mem_of_mem_take hx)
  exact ⟨p.2, (hf p hp).2, rfl⟩
theorem putAll_asc {k : Tx} : ∀ {f : Tx}, Asc k → Asc (putAll k f) := by
  intro f
  induction f generalizing k with
  | nil => exact id
  | cons p f ih => exact fun h => ih (D4.put_asc h)
theorem putAll_key {k : Tx} : ∀ {f : Tx}, KeyOK k → KeyOK f → KeyOK (putAll k f) := by
  intro f
  induction f generalizing k with
  | nil => exact fun h _ => h
  | cons p f ih =>
    intro h hf
    refine ih ?_ fun x hx => hf x (by simp [hx])
    show KeyOK (put p.1 p.2 k)
    rw [(hf p (by simp)).1]
    exact h.put (hf p (by simp)).2
theorem putAll_len {k : Tx} : ∀ {f : Tx}, (putAll k f).length ≤ k.length + f.length := by
  intro f
  induction f generalizing k with
  | nil => exact Nat.le_refl _
  | cons p f ih =>
    have h1 := ih (k := put p.1 p.2 k)
    have h2 := put_len p.1 p.2 k
    simp only [putAll, List.foldl_cons, List.length_cons] at h1 ⊢
    omega
theorem putAll_live {k : Tx} : ∀ {f : Tx}, liveK (putAll k f) ≤ liveK k + liveK f := by
  intro f
  induction f generalizing k with
  | nil => exact Nat.le_add_right _ _
  | cons p f ih =>
    have h1 := ih (k := put p.1 p.2 k)
    have h2 := liveK_put p.1 p.2 k
    simp only [putAll, List.foldl_cons, liveK, List.map_cons, List.sum_cons] at h1 h2 ⊢
    omega
theorem look_putAll (n : List UInt8) {k : Tx} : ∀ {f : Tx}, Asc k → Asc f → D4.look n (putAll k f) = (D4.look n f).or (D4.look n k) := by
  intro f
  induction f generalizing k with
  | nil => intro _ _; rfl
  | cons p f ih =>
    intro hk hf
    have h1 := ih (k := put p.1 p.2 k) (D4.put_asc hk) hf.tail
    simp only [putAll, List.foldl_cons] at h1 ⊢
    rw [h1, D4.look_put _ _ _ _ hk]
    by_cases e : p.1 = n
    · subst e
      rw [if_pos rfl, D4.look_of_none fun q hq => (D4.before_ne (hf.head q hq)).symm]
      simp [D4.look]
    · rw [if_neg e]
      simp [D4.look, e]
theorem putAll_nil {f : Tx} (h : Asc f) : putAll [] f = f := D4.asc_ext (putAll_asc List.Pairwise.nil) h fun n => by
  rw [look_putAll n List.Pairwise.nil h]; simp [D4.look]
/-- A log written anew. -/
theorem LogAt.fresh {k : Tx} {r : List UInt8} (ha : Asc k) (hk : KeyOK k) (hr : r.length ≤ 1000) : LogAt (batchL k r) r k (liveK k) false := by
  have := LogAt.nil.ext (f := k) (r := r) hk hr
  rw [putAll_nil ha, List.nil_append, Nat.zero_add] at this
  exact this
theorem LogAt.fresh2 {k f : Tx} {r : List UInt8} (ha : Asc k) (hk : KeyOK k) (hf : KeyOK f) (hr : r.length ≤ 1000) : LogAt (framesL k ++ batchL f r) r (putAll k f) (liveK k + liveK f) false := by
  have h1 : ∀ y ∈ (k.map fun p => (99 :: p.2 : List UInt8)), Pl y := fun y hy => by
    obtain ⟨p, hp, rfl⟩ := List.mem_map.1 hy
    exact ⟨p.2, (hk p hp).2, .inl rfl⟩
  refine ⟨(k.map fun p => (99 :: p.2 : List UInt8)) ++ batchP f r, [], [], fun y hy => ?_, batch_sealed _ _ _, by simp, CutOff.nil, ?_, ?_, rfl⟩
  · rcases List.mem_append.1 hy with hy | hy
    · exact h1 y hy
    · exact batch_pl hf hr y hy
  · rw [List.append_nil, List.append_nil, F5.flat_append, batch_flat]; rfl
  · unfold readP
    rw [List.foldl_append, fold_chunks k _ hk, fold_batch f r _ hf]
    rw [show putAll ([], ([] : Tx), 0).2.1 k = putAll [] k from rfl, putAll_nil ha]
    simp
theorem pre_batch {f : Tx} {r : List UInt8} (hf : KeyOK f) (hr : r.length ≤ 1000) : Pre (batchL f r) := by rw [batch_flat]; exact Pre.flat (batch_pl hf hr)
theorem pre_batch2 {k f : Tx} {r : List UInt8} (ha : Asc k) (hk : KeyOK k) (hf : KeyOK f) (hr : r.length ≤ 1000) : Pre (framesL k ++ batchL f r) := (LogAt.fresh2 ha hk hf hr).pre
end Go.Proofs.YtogihpofkjpokaaGreatDoor
namespace Go.Proofs.YtogihpofkjpokaaGreatDoor
open Go Go.RowKit Go.Maps
open D4 (put Asc look_mem asc_ext Lg del nameB kept fallP fallN)

/-- A disk with these two files, or without one of them, and no other one. -/
structure DK (l : Lg) (lg sp : Option ((List UInt8) × Nat)) : Prop where
  asc : Asc l.fs
  only : ∀ m, m ≠ logN → m ≠ spN → D4.look m l.fs = none
  lg : D4.look logN l.fs = lg
  sp : D4.look spN l.fs = sp
def dat (o : Option ((List UInt8) × Nat)) : (List UInt8) := (o.getD ([], 0)).1
theorem name_log : nameB logN = true := by decide
theorem name_sp : nameB spN = true := by decide
theorem log_sp : logN ≠ spN := by decide
theorem DK.names {l : Lg} {lg sp : Option ((List UInt8) × Nat)} (h : DK l lg sp) : ∀ p ∈ l.fs, p.1 = logN ∨ p.1 = spN := fun p hp => by
  have e := D4.look_of_mem h.asc (show (p.1, p.2) ∈ l.fs from hp)
  rcases Decidable.em (p.1 = logN) with h1 | h1
  · exact .inl h1
  · rcases Decidable.em (p.1 = spN) with h2 | h2
    · exact .inr h2
    · rw [h.only p.1 h1 h2] at e; cases e
theorem DK.ext {l l' : Lg} {lg sp : Option ((List UInt8) × Nat)} (h : DK l lg sp) (e : l'.fs = l.fs) : DK l' lg sp := ⟨e ▸ h.asc, e ▸ h.only, e ▸ h.lg, e ▸ h.sp⟩
theorem DK.len {l : Lg} {lg sp : Option ((List UInt8) × Nat)} (h : DK l lg sp) : l.fs.length ≤ 2 := by
  have hn := h.names
  have ha := h.asc
  match hf : l.fs with
  | [] => simp
  | [_] => simp
  | [_, _] => simp
  | p :: q :: r :: s =>
    exfalso
    rw [hf] at hn ha
    have h1 := ha.head q (by simp)
    have h2 := ha.head r (by simp)
    have h3 := ha.tail.head r (by simp)
    have e1 := hn p (by simp)
    have e2 := hn q (by simp)
    have e3 := hn r (by simp)
    have n1 := D4.before_ne h1
    have n2 := D4.before_ne h2
    have n3 := D4.before_ne h3
    rcases e1 with e1 | e1 <;> rcases e2 with e2 | e2 <;> rcases e3 with e3 | e3 <;> simp_all
theorem used_del {n : List UInt8} {x : (List UInt8) × Nat} : ∀ {l : List ((List UInt8) × ((List UInt8) × Nat))}, Asc l → D4.look n l = some x → (l.map fun p => p.2.1.length).sum = ((del n l).map fun p => p.2.1.length).sum + x.1.length
  | [], _, h => by cases h
  | p :: r, ha, h => by
    unfold D4.look at h
    split at h
    · rename_i e
      cases h
      have e2 : del n (p :: r) = r := by
        unfold del
        rw [List.filter_cons_of_neg (by simp [e])]
        refine List.filter_eq_self.2 fun q hq => ?_
        have := D4.before_ne (ha.head q hq)
        rw [e] at this
        simp [this.symm]
      rw [e2]
      simp only [List.map_cons, List.sum_cons]; omega
    · rename_i e
      have ih := used_del ha.tail h
      have e2 : del n (p :: r) = p :: del n r := by
        unfold del
        rw [List.filter_cons_of_pos (by simp [e])]
      rw [e2]
      simp only [List.map_cons, List.sum_cons]; omega
theorem del_none {n : List UInt8} {l : List ((List UInt8) × ((List UInt8) × Nat))} (h : D4.look n l = none) : del n l = l := by
  unfold del
  refine List.filter_eq_self.2 fun q hq => ?_
  simp [D4.look_none h q hq]
theorem used_opt {n : List UInt8} {l : List ((List UInt8) × ((List UInt8) × Nat))} (ha : Asc l) : (l.map fun p => p.2.1.length).sum = ((del n l).map fun p => p.2.1.length).sum + (dat (D4.look n l)).length := by
  cases h : D4.look n l with
  | none => rw [del_none h]; rfl
  | some x => rw [used_del ha h]; rfl
theorem DK.used {l : Lg} {lg sp : Option ((List UInt8) × Nat)} (h : DK l lg sp) : l.used = (dat lg).length + (dat sp).length := by
  unfold Lg.used
  have e1 := used_opt (n := logN) h.asc
  have e2 := used_opt (n := spN) (D4.del_asc (n := logN) h.asc)
  rw [D4.look_del, if_neg log_sp, h.sp] at e2
  rw [h.lg] at e1
  have e3 : del spN (del logN l.fs) = [] := by
    refine List.eq_nil_iff_forall_not_mem.2 fun p hp => ?_
    have h1 := D4.mem_del.1 hp
    have h2 := D4.mem_del.1 h1.1
    rcases h.names p h2.1 with e | e
    · exact h2.2 e
    · exact h1.2 e
  rw [e3] at e2
  simp only [List.map_nil, List.sum_nil] at e2
  omega
theorem DK.put {l l' : Lg} {lg sp : Option ((List UInt8) × Nat)} (h : DK l lg sp) {n : List UInt8} {x : (List UInt8) × Nat} (e : l'.fs = put n x l.fs) (hn : n = logN ∨ n = spN) :
    DK l' (if n = logN then some x else lg) (if n = spN then some x else sp) := by
  refine ⟨e ▸ D4.put_asc h.asc, fun m h1 h2 => ?_, ?_, ?_⟩
  · rw [e, D4.look_put _ _ _ _ h.asc, if_neg (by rcases hn with rfl | rfl <;> first | exact h1.symm | exact h2.symm), h.only m h1 h2]
  · rw [e, D4.look_put _ _ _ _ h.asc, h.lg]
  · rw [e, D4.look_put _ _ _ _ h.asc, h.sp]
theorem DK.del {l l' : Lg} {lg sp : Option ((List UInt8) × Nat)} (h : DK l lg sp) (e : l'.fs = del spN l.fs) : DK l' lg none := by
  refine ⟨e ▸ D4.del_asc h.asc, fun m h1 h2 => ?_, ?_, ?_⟩
  · rw [e, D4.look_del, if_neg h2.symm, h.only m h1 h2]
  · rw [e, D4.look_del, if_neg log_sp.symm, h.lg]
  · rw [e, D4.look_del, if_pos rfl]

/-! ways -/
structure Fin (l l' : Lg) (fs : List ((List UInt8) × ((List UInt8) × Nat))) : Prop where
  fs : l'.fs = fs
  down : l'.down = false
  room : l'.room = l.room
structure Out (l l' : Lg) : Prop where
  fs : l'.fs = l.fs
  down : l'.down = true
  room : l'.room = l.room
theorem go_ways {l : Lg} (hd : l.down = false) : (l.go = true ∧ l.step.down = false ∧ l.step.room = l.room) ∨ (l.go = false ∧ l.step.down = true ∧ l.step.room = l.room) := by
  unfold Lg.go Lg.step
  cases h : l.lim with
  | false => exact .inl ⟨rfl, by simpa using hd, rfl⟩
  | true =>
    by_cases h2 : 0 < l.fuel
    · exact .inl ⟨by simp [h2], by simpa [h2] using hd, by simp [h2]⟩
    · exact .inr ⟨by simp [h2], by simp [h2], by simp [h2]⟩
theorem del_ways {l : Lg} {n : List UInt8} (hd : l.down = false) (hn : nameB n = true) :
    (D4.look n l.fs = none ∧ l.syncC n = 4 ∧ l.dele n = l) ∨ (l.syncC n = 0 ∧ Fin l (l.dele n) (del n l.fs)) ∨ (l.syncC n = 3 ∧ Out l (l.dele n)) := by
  rcases D4.ways l n with ⟨h, _⟩ | ⟨_, h, _⟩ | ⟨_, _, h, hc⟩ | ⟨x, _, _, h, hc, _⟩
  · rw [hd] at h; cases h
  · rw [hn] at h; cases h
  · refine .inl ⟨h, ?_, ?_⟩
    · unfold Lg.syncC; rw [hc]; rfl
    · unfold Lg.dele; rw [hc]; rfl
  · unfold Lg.syncC Lg.dele
    rw [hc]
    rcases go_ways hd with ⟨g, h1, h2⟩ | ⟨g, h1, h2⟩
    · rw [g]
      exact .inr (.inl ⟨rfl, rfl, h1, h2⟩)
    · rw [g]
      exact .inr (.inr ⟨rfl, D4.step_fs' l, h1, h2⟩)
theorem sync_ways {l : Lg} {n : List UInt8} {x : (List UInt8) × Nat} (hd : l.down = false) (hn : nameB n = true) (hx : D4.look n l.fs = some x) :
    (l.syncC n = 0 ∧ Fin l (l.sync n) (put n (x.1, x.1.length) l.fs)) ∨ (l.syncC n = 3 ∧ Out l (l.sync n)) := by
  rcases D4.ways l n with ⟨h, _⟩ | ⟨_, h, _⟩ | ⟨_, _, h, hc⟩ | ⟨y, _, _, h, hc, ho⟩
  · rw [hd] at h; cases h
  · rw [hn] at h; cases h
  · rw [hx] at h; cases h
  · rw [hx] at h
    cases h
    unfold Lg.syncC Lg.sync
    rw [hc, ho]
    rcases go_ways hd with ⟨g, h1, h2⟩ | ⟨g, h1, h2⟩
    · rw [g]
      exact .inl ⟨rfl, rfl, h1, h2⟩
    · rw [g]
      exact .inr ⟨rfl, D4.step_fs' l, h1, h2⟩
theorem ren_ways {l : Lg} {n m : List UInt8} {x : (List UInt8) × Nat} (hd : l.down = false) (hn : nameB n = true) (hm : nameB m = true) (hx : D4.look n l.fs = some x) :
    (l.renC n m = 0 ∧ Fin l (l.ren n m) (put m x (del n l.fs))) ∨ (l.renC n m = 3 ∧ Out l (l.ren n m)) := by
  rcases D4.ways l n with ⟨h, _⟩ | ⟨_, h, _⟩ | ⟨_, _, h, hc⟩ | ⟨y, _, _, h, hc, ho⟩
  · rw [hd] at h; cases h
  · rw [hn] at h; cases h
  · rw [hx] at h; cases h
  · rw [hx] at h
    cases h
    unfold Lg.renC Lg.ren Lg.syncC
    rw [hd, hm, hc, ho]
    rcases go_ways hd with ⟨g, h1, h2⟩ | ⟨g, h1, h2⟩
    · rw [g]
      exact .inl ⟨rfl, rfl, h1, h2⟩
    · rw [g]
      exact .inr ⟨rfl, D4.step_fs' l, h1, h2⟩
theorem app_ways {l : Lg} {n s : List UInt8} (hd : l.down = false) (hn : nameB n = true) :
    (l.appC n s = 2 ∧ l.app n s = l ∧ (l.room - l.used : Int) < (s.length : Int)) ∨ (l.appC n s = 0 ∧ Fin l (l.app n s) (put n ((l.old n).1 ++ s, (l.old n).2) l.fs)) ∨ (l.appC n s = 3 ∧ Out l (l.app n s)) := by
  unfold Lg.appC Lg.app
  rw [hd, hn]
  simp only [Bool.false_eq_true, if_false, if_true]
  by_cases h : (l.room - l.used : Int) < (s.length : Int)
  · rw [if_pos h, if_pos h]; exact .inl ⟨rfl, rfl, h⟩
  · rw [if_neg h, if_neg h]
    rcases go_ways hd with ⟨g, h1, h2⟩ | ⟨g, h1, h2⟩
    · rw [g]
      exact .inr (.inl ⟨rfl, rfl, h1, h2⟩)
    · rw [g]
      exact .inr (.inr ⟨rfl, D4.step_fs' l, h1, h2⟩)

theorem ext_ways {l : Lg} {lg sp : Option ((List UInt8) × Nat)} (h : DK l lg sp) (hd : l.down = false) (fs : List UInt8) :
    (extL l fs).room = l.room ∧
    ((extC l fs = 3 ∧ (extL l fs).down = true ∧ (DK (extL l fs) lg sp ∨ DK (extL l fs) (some (dat lg ++ fs, (lg.getD ([], 0)).2)) sp)) ∨
     (extC l fs = 2 ∧ extL l fs = l ∧ (l.room - ((dat lg).length + (dat sp).length : Nat) : Int) < (fs.length : Int)) ∨
     (extC l fs = 0 ∧ (extL l fs).down = false ∧ DK (extL l fs) (some (dat lg ++ fs, (dat lg ++ fs).length)) sp)) := by
  have ho : l.old logN = lg.getD ([], 0) := by unfold Lg.old; rw [h.lg]
  unfold extC extL
  rcases app_ways (n := logN) (s := fs) hd name_log with ⟨e, e2, hr⟩ | ⟨e, hF⟩ | ⟨e, hO⟩
  · rw [e, if_neg (by decide), if_neg (by decide), e2]
    rw [h.used] at hr
    exact ⟨rfl, .inr (.inl ⟨rfl, rfl, hr⟩)⟩
  · rw [e, if_pos rfl, if_pos rfl]
    have h1 := h.put hF.fs (.inl rfl)
    rw [if_pos rfl, if_neg log_sp, ho] at h1
    rcases sync_ways (n := logN) hF.down name_log h1.lg with ⟨e3, hG⟩ | ⟨e3, hG⟩
    · rw [e3]
      have h2 := h1.put hG.fs (.inl rfl)
      rw [if_pos rfl, if_neg log_sp] at h2
      exact ⟨hG.room.trans hF.room, .inr (.inr ⟨rfl, hG.down, h2⟩)⟩
    · rw [e3]
      exact ⟨hG.room.trans hF.room, .inl ⟨rfl, hG.down, .inr (h1.ext hG.fs)⟩⟩
  · rw [e, if_neg (by decide), if_neg (by decide)]
    exact ⟨hO.room, .inl ⟨rfl, hO.down, .inl (h.ext hO.fs)⟩⟩
theorem rep_ways {l : Lg} {lg sp : Option ((List UInt8) × Nat)} (h : DK l lg sp) (hd : l.down = false) (fs : List UInt8) :
    (repL l fs).room = l.room ∧
    ((repC l fs = 3 ∧ (repL l fs).down = true ∧ ∃ sp', DK (repL l fs) lg sp' ∧ (sp' = sp ∨ sp' = none ∨ sp' = some (fs, 0) ∨ sp' = some (fs, fs.length))) ∨
     (repC l fs = 2 ∧ (repL l fs).down = false ∧ DK (repL l fs) lg none ∧ (l.room - (dat lg).length : Int) < (fs.length : Int)) ∨
     (repC l fs = 0 ∧ (repL l fs).down = false ∧ DK (repL l fs) (some (fs, fs.length)) none)) := by
  have key : ∀ l1 : Lg, l1.room = l.room → l1.down = false → DK l1 lg none →
      (if l1.appC spN fs = 0 then (if (l1.app spN fs).syncC spN = 0 then ((l1.app spN fs).sync spN).ren spN logN else (l1.app spN fs).sync spN) else l1.app spN fs).room = l.room ∧
      (((if l1.appC spN fs = 0 then (if (l1.app spN fs).syncC spN = 0 then ((l1.app spN fs).sync spN).renC spN logN else (l1.app spN fs).syncC spN) else l1.appC spN fs) = 3 ∧
        (if l1.appC spN fs = 0 then (if (l1.app spN fs).syncC spN = 0 then ((l1.app spN fs).sync spN).ren spN logN else (l1.app spN fs).sync spN) else l1.app spN fs).down = true ∧
        ∃ sp', DK (if l1.appC spN fs = 0 then (if (l1.app spN fs).syncC spN = 0 then ((l1.app spN fs).sync spN).ren spN logN else (l1.app spN fs).sync spN) else l1.app spN fs) lg sp' ∧ (sp' = sp ∨ sp' = none ∨ sp' = some (fs, 0) ∨ sp' = some (fs, fs.length))) ∨
       ((if l1.appC spN fs = 0 then (if (l1.app spN fs).syncC spN = 0 then ((l1.app spN fs).sync spN).renC spN logN else (l1.app spN fs).syncC spN) else l1.appC spN fs) = 2 ∧
        (if l1.appC spN fs = 0 then (if (l1.app spN fs).syncC spN = 0 then ((l1.app spN fs).sync spN).ren spN logN else (l1.app spN fs).sync spN) else l1.app spN fs).down = false ∧
        DK (if l1.appC spN fs = 0 then (if (l1.app spN fs).syncC spN = 0 then ((l1.app spN fs).sync spN).ren spN logN else (l1.app spN fs).sync spN) else l1.app spN fs) lg none ∧ (l.room - (dat lg).length : Int) < (fs.length : Int)) ∨
       ((if l1.appC spN fs = 0 then (if (l1.app spN fs).syncC spN = 0 then ((l1.app spN fs).sync spN).renC spN logN else (l1.app spN fs).syncC spN) else l1.appC spN fs) = 0 ∧
        (if l1.appC spN fs = 0 then (if (l1.app spN fs).syncC spN = 0 then ((l1.app spN fs).sync spN).ren spN logN else (l1.app spN fs).sync spN) else l1.app spN fs).down = false ∧
        DK (if l1.appC spN fs = 0 then (if (l1.app spN fs).syncC spN = 0 then ((l1.app spN fs).sync spN).ren spN logN else (l1.app spN fs).sync spN) else l1.app spN fs) (some (fs, fs.length)) none)) := by
    intro l1 hr1 hd1 h1
    have ho : l1.old spN = ([], 0) := by unfold Lg.old; rw [h1.sp]; rfl
    rcases app_ways (n := spN) (s := fs) hd1 name_sp with ⟨e, e2, hr⟩ | ⟨e, hF⟩ | ⟨e, hO⟩
    · rw [e, if_neg (by decide), if_neg (by decide), e2]
      rw [h1.used, hr1] at hr
      refine ⟨hr1, .inr (.inl ⟨rfl, hd1, h1, ?_⟩)⟩
      simpa [dat] using hr
    · rw [e, if_pos rfl, if_pos rfl]
      have h2 := h1.put hF.fs (.inr rfl)
      rw [if_neg log_sp.symm, if_pos rfl, ho, List.nil_append] at h2
      rcases sync_ways (n := spN) hF.down name_sp h2.sp with ⟨e3, hG⟩ | ⟨e3, hG⟩
      · rw [e3, if_pos rfl, if_pos rfl]
        have h3 := h2.put hG.fs (.inr rfl)
        rw [if_neg log_sp.symm, if_pos rfl] at h3
        rcases ren_ways (n := spN) (m := logN) hG.down name_sp name_log h3.sp with ⟨e4, hH⟩ | ⟨e4, hH⟩
        · rw [e4]
          have h4 : DK { (((l1.app spN fs).sync spN).ren spN logN) with fs := del spN ((l1.app spN fs).sync spN).fs } lg none := h3.del rfl
          have h5 := h4.put (l' := ((l1.app spN fs).sync spN).ren spN logN) (n := logN) (x := (fs, fs.length)) hH.fs (.inl rfl)
          rw [if_pos rfl, if_neg log_sp] at h5
          exact ⟨hH.room.trans (hG.room.trans (hF.room.trans hr1)), .inr (.inr ⟨rfl, hH.down, h5⟩)⟩
        · rw [e4]
          exact ⟨hH.room.trans (hG.room.trans (hF.room.trans hr1)), .inl ⟨rfl, hH.down, _, h3.ext hH.fs, .inr (.inr (.inr rfl))⟩⟩
      · rw [e3, if_neg (by decide), if_neg (by decide)]
        exact ⟨hG.room.trans (hF.room.trans hr1), .inl ⟨rfl, hG.down, _, h2.ext hG.fs, .inr (.inr (.inl rfl))⟩⟩
    · rw [e, if_neg (by decide), if_neg (by decide)]
      exact ⟨hO.room.trans hr1, .inl ⟨rfl, hO.down, _, h1.ext hO.fs, .inr (.inl rfl)⟩⟩
  unfold repC repL
  rcases del_ways (n := spN) hd name_sp with ⟨hl, e, e2⟩ | ⟨e, hF⟩ | ⟨e, hO⟩
  · rw [e, if_pos (show (4 : Int) = 0 ∨ (4 : Int) = 4 from .inr rfl), if_pos (show (4 : Int) = 0 ∨ (4 : Int) = 4 from .inr rfl), e2]
    exact key l rfl hd ⟨h.asc, h.only, h.lg, hl⟩
  · rw [e, if_pos (show (0 : Int) = 0 ∨ (0 : Int) = 4 from .inl rfl), if_pos (show (0 : Int) = 0 ∨ (0 : Int) = 4 from .inl rfl)]
    exact key _ hF.room hF.down (h.del hF.fs)
  · rw [e, if_neg (show ¬ ((3 : Int) = 0 ∨ (3 : Int) = 4) by decide), if_neg (show ¬ ((3 : Int) = 0 ∨ (3 : Int) = 4) by decide)]
    exact ⟨hO.room, .inl ⟨rfl, hO.down, sp, h.ext hO.fs, .inl rfl⟩⟩
/-! a fall -/
theorem fallN_look (keep : List Int) (n : List UInt8) : ∀ (l : List ((List UInt8) × ((List UInt8) × Nat))), Asc l → ∃ k, D4.look n (fallN keep l.length l) = (D4.look n l).map (fallP k) := by
  have gen : ∀ (l : List ((List UInt8) × ((List UInt8) × Nat))) (f : Nat → Int), ∃ k, D4.look n (l.mapIdx fun j p => (p.1, fallP (f j) p.2)) = (D4.look n l).map (fallP k) := by
    intro l
    induction l with
    | nil => intro f; exact ⟨0, rfl⟩
    | cons p r ih =>
      intro f
      by_cases e : p.1 = n
      · refine ⟨f 0, ?_⟩
        simp [List.mapIdx_cons, D4.look, e]
      · obtain ⟨k, hk⟩ := ih fun j => f (j + 1)
        refine ⟨k, ?_⟩
        simp only [List.mapIdx_cons, D4.look, if_neg e]
        exact hk
  intro l _
  obtain ⟨k, hk⟩ := gen l fun j => keep.getD j 0
  refine ⟨k, ?_⟩
  rw [← hk]
  congr 1
  unfold fallN
  refine List.ext_getElem (by simp) fun j h1 h2 => ?_
  have hj : j < l.length := by simpa using h1
  simp [hj]
theorem fallN_asc (keep : List Int) (i : Nat) (l : List ((List UInt8) × ((List UInt8) × Nat))) (h : Asc l) : Asc (fallN keep i l) := by
  have e : (fallN keep i l).map (·.1) = l.map (·.1) := by
    unfold fallN
    refine List.ext_getElem (by simp) fun j h1 h2 => ?_
    simp only [List.getElem_map, List.getElem_mapIdx]
    split <;> rfl
  have h1 : (l.map (·.1)).Pairwise fun a b => bytesBefore a b = true := List.pairwise_map.2 h
  rw [← e] at h1
  exact List.pairwise_map.1 h1
theorem DK.fall {l : Lg} {lg sp : Option ((List UInt8) × Nat)} (h : DK l lg sp) (keep : List Int) : ∃ k1 k2, DK (l.fall keep) (lg.map (fallP k1)) (sp.map (fallP k2)) := by
  obtain ⟨k1, e1⟩ := fallN_look keep logN l.fs h.asc
  obtain ⟨k2, e2⟩ := fallN_look keep spN l.fs h.asc
  refine ⟨k1, k2, fallN_asc _ _ _ h.asc, fun m h1 h2 => ?_, ?_, ?_⟩
  · obtain ⟨k3, e3⟩ := fallN_look keep m l.fs h.asc
    show D4.look m (fallN keep l.fs.length l.fs) = none
    rw [e3, h.only m h1 h2]; rfl
  · show D4.look logN (fallN keep l.fs.length l.fs) = _
    rw [e1, h.lg]
  · show D4.look spN (fallN keep l.fs.length l.fs) = _
    rw [e2, h.sp]
theorem kept_between {len sure : Nat} (h : sure ≤ len) (n : Int) : sure ≤ kept len sure n ∧ kept len sure n ≤ len := by
  unfold kept; omega
end Go.Proofs.YtogihpofkjpokaaGreatDoor
namespace Go.Proofs.YtogihpofkjpokaaGreatDoor
open Go Go.RowKit Go.Maps
open D4 (put Asc look_mem asc_ext Lg del nameB kept fallP fallN)

/-- A store that is up, and its disk: B bounds the bytes of its frames, N the number of its chunks. -/
structure UpS (l : Lg) (lg sp : Option ((List UInt8) × Nat)) (a : Ab) (B N : Nat) : Prop where
  dk : DK l lg sp
  down : l.down = false
  ad : a.down = false
  sure : ∀ f, lg = some f → f.2 = f.1.length
  spl : ∀ f, sp = some f → f.2 ≤ f.1.length
  log : ∃ r, r ≤ a.live ∧ LogAt (dat lg) a.root a.kept r a.torn
  size : a.size = (dat lg).length
  pre : Pre (dat sp)
  bl : (dat lg).length ≤ 2 * B + 1000
  bs : (dat sp).length ≤ B
  live : a.live + liveK a.fresh + (13 + a.root.length) ≤ B
  cnt : a.kept.length + a.fresh.length ≤ N
  key : KeyOK a.fresh
  asc : Asc a.fresh
def Up (l : Lg) (a : Ab) (B N : Nat) : Prop := ∃ lg sp, UpS l lg sp a B N
/-- A store whose disk went down in a call that would have led to R and K. -/
structure DnS (l : Lg) (lg sp : Option ((List UInt8) × Nat)) (a : Ab) (R : List UInt8) (K : Tx) (B N : Nat) : Prop where
  dk : DK l lg sp
  down : l.down = true
  ad : a.down = true
  lgl : ∀ f, lg = some f → f.2 ≤ f.1.length
  spl : ∀ f, sp = some f → f.2 ≤ f.1.length
  fall : ∀ k, (lg.getD ([], 0)).2 ≤ k → k ≤ (dat lg).length → ∃ r t, (r + (13 + a.root.length) ≤ B ∧ LogAt ((dat lg).take k) a.root a.kept r t) ∨ (r + (13 + R.length) ≤ B ∧ LogAt ((dat lg).take k) R K r t)
  pre : Pre (dat sp)
  bl : (dat lg).length ≤ 2 * B + 1000
  bs : (dat sp).length ≤ B
  cnt : a.kept.length + a.fresh.length ≤ N
  cntK : K.length ≤ N
  key : KeyOK a.fresh
  asc : Asc a.fresh
  kkey : KeyOK a.kept
  kasc : Asc a.kept
  root : a.root.length ≤ 1000
  siz : a.size ≤ 2 * B + 1000
  liv : a.live ≤ B
def Dn (l : Lg) (a : Ab) (R : List UInt8) (K : Tx) (B N : Nat) : Prop := ∃ lg sp, DnS l lg sp a R K B N
theorem liveK_nil : liveK [] = 0 := rfl
section
variable {l : Lg} {lg sp : Option ((List UInt8) × Nat)} {a : Ab} {R : List UInt8} {K : Tx} {B N : Nat}
theorem UpS.rq (h : UpS l lg sp a B N) : Asc a.kept ∧ KeyOK a.kept ∧ liveK a.kept ≤ a.live ∧ a.root.length ≤ 1000 := by
  obtain ⟨r, hr, hl⟩ := h.log
  have := hl.rq
  exact ⟨this.asc, this.key, Nat.le_trans this.live hr, this.root⟩
theorem Up.mono {B' N' : Nat} (h : Up l a B N) (hB : B ≤ B') (hN : N ≤ N') : Up l a B' N' := by
  obtain ⟨lg, sp, h⟩ := h
  exact ⟨lg, sp, h.dk, h.down, h.ad, h.sure, h.spl, h.log, h.size, h.pre, by have := h.bl; omega, by have := h.bs; omega, by have := h.live; omega, by have := h.cnt; omega, h.key, h.asc⟩
theorem Dn.mono {B' N' : Nat} (h : Dn l a R K B N) (hB : B ≤ B') (hN : N ≤ N') : Dn l a R K B' N' := by
  obtain ⟨lg, sp, h⟩ := h
  refine ⟨lg, sp, h.dk, h.down, h.ad, h.lgl, h.spl, fun k h1 h2 => ?_, h.pre, by have := h.bl; omega, by have := h.bs; omega, by have := h.cnt; omega, by have := h.cntK; omega, h.key, h.asc, h.kkey, h.kasc, h.root, by have := h.siz; omega, by have := h.liv; omega⟩
  obtain ⟨r, t, h3 | h3⟩ := h.fall k h1 h2
  · exact ⟨r, t, .inl ⟨by omega, h3.2⟩⟩
  · exact ⟨r, t, .inr ⟨by omega, h3.2⟩⟩
/-- The same disk, but for its room and its fuel. -/
theorem Up.disk {l' : Lg} (h : Up l a B N) (e : l'.fs = l.fs) (hd : l'.down = l.down) : Up l' a B N := by
  obtain ⟨lg, sp, h⟩ := h
  exact ⟨lg, sp, h.dk.ext e, hd.trans h.down, h.ad, h.sure, h.spl, h.log, h.size, h.pre, h.bl, h.bs, h.live, h.cnt, h.key, h.asc⟩
theorem Dn.disk {l' : Lg} (h : Dn l a R K B N) (e : l'.fs = l.fs) (hd : l'.down = l.down) : Dn l' a R K B N := by
  obtain ⟨lg, sp, h⟩ := h
  exact ⟨lg, sp, h.dk.ext e, hd.trans h.down, h.ad, h.lgl, h.spl, h.fall, h.pre, h.bl, h.bs, h.cnt, h.cntK, h.key, h.asc, h.kkey, h.kasc, h.root, h.siz, h.liv⟩
/-- Nothing new. -/
def Ab.drop (a : Ab) : Ab := { a with fresh := [] }
theorem UpS.drop (h : UpS l lg sp a B N) : UpS l lg sp a.drop B N :=
  ⟨h.dk, h.down, h.ad, h.sure, h.spl, h.log, h.size, h.pre, h.bl, h.bs, by have := h.live; show a.live + 0 + (13 + a.root.length) ≤ B; omega, by have := h.cnt; show a.kept.length + 0 ≤ N; omega, KeyOK.nil, List.Pairwise.nil⟩
theorem Up.drop (h : Up l a B N) : Up l a.drop B N := by
  obtain ⟨lg, sp, h⟩ := h
  exact ⟨lg, sp, h.drop⟩
theorem Dn.drop (h : Dn l a R K B N) : Dn l a.drop R K B N := by
  obtain ⟨lg, sp, h⟩ := h
  exact ⟨lg, sp, h.dk, h.down, h.ad, h.lgl, h.spl, h.fall, h.pre, h.bl, h.bs, by have := h.cnt; show a.kept.length + 0 ≤ N; omega, h.cntK, KeyOK.nil, List.Pairwise.nil, h.kkey, h.kasc, h.root, h.siz, h.liv⟩
/-- A chunk put. -/
def Ab.putF (a : Ab) (t : List UInt8) : Ab := if (a.get (sha t)).isSome then a else { a with fresh := put (sha t) t a.fresh }
theorem Up.put (h : Up l a B N) (t : List UInt8) (ht : t.length ≤ 1000) : Up l (a.putF t) (B + (13 + t.length)) (N + 1) := by
  unfold Ab.putF
  split
  · exact h.mono (by omega) (by omega)
  · obtain ⟨lg, sp, h⟩ := h
    have h1 := liveK_put (sha t) t a.fresh
    have h2 := put_len (sha t) t a.fresh
    exact ⟨lg, sp, h.dk, h.down, h.ad, h.sure, h.spl, h.log, h.size, h.pre, by have := h.bl; omega, by have := h.bs; omega, by have := h.live; show a.live + liveK (D4.put (sha t) t a.fresh) + (13 + a.root.length) ≤ _; omega, by have := h.cnt; show a.kept.length + (D4.put (sha t) t a.fresh).length ≤ _; omega, h.key.put ht, D4.put_asc h.asc⟩

/-! Commit -/
def Ab.anew (a : Ab) (n : Nat) : Bool := a.torn || decide (2 * (a.live + n) + 1000 < a.size + n)
theorem anew_ss (a : Ab) (d : Nat) (km fm : Option Nat) (n : Nat) : (a.ss d km fm).anew n = a.anew n := rfl
def Ab.comC (a : Ab) (l : Lg) (r : List UInt8) : Int := if a.anew (batchL a.fresh r).length then repC l (framesL a.kept ++ batchL a.fresh r) else extC l (batchL a.fresh r)
def Ab.comL (a : Ab) (l : Lg) (r : List UInt8) : Lg := if a.anew (batchL a.fresh r).length then repL l (framesL a.kept ++ batchL a.fresh r) else extL l (batchL a.fresh r)
def Ab.done (a : Ab) (r : List UInt8) : Ab :=
  if a.anew (batchL a.fresh r).length then ⟨(framesL a.kept ++ batchL a.fresh r).length, a.live + liveK a.fresh, false, r, putAll a.kept a.fresh, [], false⟩
  else ⟨a.size + (batchL a.fresh r).length, a.live + liveK a.fresh, a.torn, r, putAll a.kept a.fresh, [], false⟩
def Ab.out (a : Ab) : Ab := { a with down := true }
theorem take_all {D : List UInt8} {k : Nat} (h : D.length ≤ k) : D.take k = D := List.take_of_length_le h
theorem sure_of {lg : Option ((List UInt8) × Nat)} (h : ∀ f, lg = some f → f.2 = f.1.length) : (lg.getD ([], 0)).2 = (dat lg).length := by
  cases lg with
  | none => rfl
  | some f => exact h f rfl
theorem UpS.dn (h : UpS l lg sp a B N) {l' : Lg} {sp' : Option ((List UInt8) × Nat)} {B' : Nat} (hD : DK l' lg sp') (hd : l'.down = true) (hs : ∀ f, sp' = some f → f.2 ≤ f.1.length) (hp : Pre (dat sp')) (hb : (dat sp').length ≤ B') (hB : B ≤ B') (hK : K.length ≤ N) : DnS l' lg sp' a.out R K B' N := by
  obtain ⟨r, hr, hl⟩ := h.log
  have hq := hl.rq
  have hv := h.live
  refine ⟨hD, hd, rfl, fun f e => Nat.le_of_eq (h.sure f e), hs, fun k h1 h2 => ⟨r, a.torn, .inl ⟨?_, ?_⟩⟩, hp, by have := h.bl; omega, hb, h.cnt, hK, h.key, h.asc, hq.key, hq.asc, hq.root, ?_, ?_⟩
  · show r + (13 + a.root.length) ≤ B'; omega
  · rw [sure_of h.sure] at h1
    rw [take_all h1]; exact hl
  · show a.size ≤ _; rw [h.size]; have := h.bl; omega
  · show a.live ≤ _; omega
theorem Up.commit (h : Up l a B N) (r : List UInt8) (hr : r.length ≤ 1000) : (a.comL l r).room = l.room ∧
    ((a.comC l r = 0 ∧ Up (a.comL l r) (a.done r) (B + (13 + r.length)) N) ∨
     (a.comC l r = 3 ∧ Dn (a.comL l r) a.drop.out r (putAll a.kept a.fresh) (B + (13 + r.length)) N) ∨
     (a.comC l r = 2 ∧ Up (a.comL l r) a.drop (B + (13 + r.length)) N ∧ l.room < 3 * (B + (13 + r.length) : Nat) + 1000)) := by
  obtain ⟨lg, sp, h⟩ := h
  obtain ⟨hka, hkk, hkl, hrl⟩ := h.rq
  have hv := h.live
  have hbl := h.bl
  have hbs := h.bs
  have hpl := putAll_len (k := a.kept) (f := a.fresh)
  have hcn := h.cnt
  have hn := batchL_length a.fresh r
  have hm : (framesL a.kept ++ batchL a.fresh r).length = liveK a.kept + (liveK a.fresh + (13 + r.length)) := by rw [List.length_append, framesL_length, hn]
  unfold Ab.comC Ab.comL Ab.done
  by_cases an : a.anew (batchL a.fresh r).length = true
  · simp only [an, if_true]
    have P2 := pre_batch2 hka hkk h.key hr
    have F2 := LogAt.fresh2 hka hkk h.key hr
    generalize framesL a.kept ++ batchL a.fresh r = fs at *
    obtain ⟨hroom, ⟨e, hd, sp', hD, hsp⟩ | ⟨e, hd, hD, hq⟩ | ⟨e, hd, hD⟩⟩ := rep_ways h.dk h.down fs
    · refine ⟨hroom, .inr (.inl ⟨e, lg, sp', h.drop.dn hD hd ?_ ?_ ?_ (by omega) (by omega)⟩)⟩
      · rcases hsp with rfl | rfl | rfl | rfl
        · exact h.spl
        · intro f hf; cases hf
        · intro f hf; cases hf; simp
        · intro f hf; cases hf; simp
      · rcases hsp with rfl | rfl | rfl | rfl
        · exact h.pre
        · exact Pre.nil
        · exact P2
        · exact P2
      · rcases hsp with rfl | rfl | rfl | rfl
        · omega
        · show 0 ≤ _; omega
        · show fs.length ≤ _; omega
        · show fs.length ≤ _; omega
    · refine ⟨hroom, .inr (.inr ⟨e, ⟨lg, none, hD, hd, h.ad, h.sure, (fun f hf => by cases hf), h.log, h.size, Pre.nil, by omega, Nat.zero_le _, ?_, ?_, KeyOK.nil, List.Pairwise.nil⟩, ?_⟩)⟩
      · show a.live + 0 + (13 + a.root.length) ≤ _; omega
      · show a.kept.length + 0 ≤ _; omega
      · omega
    · refine ⟨hroom, .inl ⟨e, some (fs, fs.length), none, hD, hd, rfl, ?_, (fun f hf => by cases hf), ⟨_, ?_, F2⟩, rfl, Pre.nil, ?_, Nat.zero_le _, ?_, ?_, KeyOK.nil, List.Pairwise.nil⟩⟩
      · intro f hf; cases hf; rfl
      · show liveK a.kept + liveK a.fresh ≤ a.live + liveK a.fresh; omega
      · show fs.length ≤ _; omega
      · show a.live + liveK a.fresh + 0 + (13 + r.length) ≤ _; omega
      · show (putAll a.kept a.fresh).length + 0 ≤ _; omega
  · simp only [an, Bool.false_eq_true, if_false]
    have an2 : a.torn = false ∧ a.size + (batchL a.fresh r).length ≤ 2 * (a.live + (batchL a.fresh r).length) + 1000 := by
      unfold Ab.anew at an
      simp only [Bool.or_eq_true, decide_eq_true_eq, not_or] at an
      exact ⟨by simpa using an.1, by omega⟩
    obtain ⟨r0, hr0, hlog⟩ := h.log
    rw [an2.1] at hlog
    have hsz := h.size
    have F := hlog.ext (f := a.fresh) (r := r) h.key hr
    have HF : ∀ m, m < (batchL a.fresh r).length → ∃ t, LogAt (dat lg ++ (batchL a.fresh r).take m) a.root a.kept r0 t := fun m hm => hlog.half h.key hr m hm
    have an3 := an2.2
    generalize batchL a.fresh r = fs at *
    obtain ⟨hroom, ⟨e, hd, hD | hD⟩ | ⟨e, hl, hq⟩ | ⟨e, hd, hD⟩⟩ := ext_ways h.dk h.down fs
    · exact ⟨hroom, .inr (.inl ⟨e, lg, sp, h.drop.dn hD hd h.spl h.pre (by omega) (by omega) (by omega)⟩)⟩
    · rw [sure_of h.sure] at hD
      refine ⟨hroom, .inr (.inl ⟨e, _, sp, hD, hd, rfl, ?_, h.spl, fun k h1 h2 => ?_, h.pre, ?_, by omega, ?_, by omega, KeyOK.nil, List.Pairwise.nil, hkk, hka, hrl, ?_, ?_⟩)⟩
      · intro f hf; cases hf; show (dat lg).length ≤ (dat lg ++ fs).length; rw [List.length_append]; omega
      · have h1 : (dat lg).length ≤ k := h1
        have h2 : k ≤ (dat lg ++ fs).length := h2
        rw [List.length_append] at h2
        have e1 : (dat (some (dat lg ++ fs, (dat lg).length))).take k = dat lg ++ fs.take (k - (dat lg).length) := by
          show (dat lg ++ fs).take k = _
          rw [List.take_append, take_all h1]
        rw [e1]
        by_cases hk : k - (dat lg).length < fs.length
        · obtain ⟨t, ht⟩ := HF _ hk
          exact ⟨r0, t, .inl ⟨by show r0 + (13 + a.root.length) ≤ _; omega, ht⟩⟩
        · rw [take_all (by omega)]
          exact ⟨_, false, .inr ⟨by show r0 + liveK a.fresh + (13 + r.length) ≤ _; omega, F⟩⟩
      · show (dat lg ++ fs).length ≤ _; rw [List.length_append]; omega
      · show a.kept.length + 0 ≤ _; omega
      · show a.size ≤ _; omega
      · show a.live ≤ _; omega
    · rw [hl]
      refine ⟨rfl, .inr (.inr ⟨e, Up.mono ⟨lg, sp, h.drop⟩ (by omega) (Nat.le_refl _), ?_⟩)⟩
      omega
    · refine ⟨hroom, .inl ⟨e, _, sp, hD, hd, rfl, ?_, h.spl, ⟨_, ?_, by rw [an2.1]; exact F⟩, ?_, h.pre, ?_, by omega, ?_, ?_, KeyOK.nil, List.Pairwise.nil⟩⟩
      · intro f hf; cases hf; rfl
      · show r0 + liveK a.fresh ≤ a.live + liveK a.fresh; omega
      · show a.size + fs.length = (dat lg ++ fs).length; rw [List.length_append]; omega
      · show (dat lg ++ fs).length ≤ _; rw [List.length_append]; omega
      · show a.live + liveK a.fresh + 0 + (13 + r.length) ≤ _; omega
      · show (putAll a.kept a.fresh).length + 0 ≤ _; omega

/-! Collect -/
theorem sub_of_asc {α : Type} : ∀ {m k : List ((List UInt8) × α)}, Asc m → Asc k → (∀ p ∈ m, p ∈ k) → m.Sublist k
  | [], _, _, _, _ => List.nil_sublist _
  | p :: r, [], _, _, h => by have := h p (by simp); cases this
  | p :: r, q :: s, hm, hk, h => by
    rcases List.mem_cons.1 (h p (by simp)) with e | hp
    · subst e
      refine List.Sublist.cons_cons _ (sub_of_asc hm.tail hk.tail fun x hx => ?_)
      rcases List.mem_cons.1 (h x (by simp [hx])) with e | h'
      · have := hm.head x hx
        rw [e, WideAt.bytes_irrefl] at this
        cases this
      · exact h'
    · refine List.Sublist.cons _ (sub_of_asc hm hk.tail fun x hx => ?_)
      rcases List.mem_cons.1 (h x hx) with e | h'
      · subst e
        rcases List.mem_cons.1 hx with e | hx
        · subst e; exact hp
        · have h1 := hm.head x hx
          have h2 := hk.head p hp
          rw [D4.before_asymm h1] at h2
          cases h2
      · exact h'
theorem liveK_sub {m k : Tx} (h : m.Sublist k) : liveK m ≤ liveK k := by
  unfold liveK
  induction h with
  | slnil => exact Nat.le_refl _
  | cons a _ ih => simp only [List.map_cons, List.sum_cons]; omega
  | cons_cons a _ ih => simp only [List.map_cons, List.sum_cons]; omega
def Ab.colC (a : Ab) (l : Lg) (rest : Tx) : Int := repC l (batchL rest a.root)
def Ab.colL (a : Ab) (l : Lg) (rest : Tx) : Lg := repL l (batchL rest a.root)
def Ab.less (a : Ab) (rest : Tx) : Ab := { a with size := (batchL rest a.root).length, torn := false, live := liveK rest, kept := rest }
theorem Up.collect (h : Up l a B N) {rest : Tx} (ha : Asc rest) (hs : ∀ p ∈ rest, p ∈ a.kept) : (a.colL l rest).room = l.room ∧
    ((a.colC l rest = 0 ∧ Up (a.colL l rest) (a.less rest) B N) ∨
     (a.colC l rest = 3 ∧ Dn (a.colL l rest) a.out a.root rest B N) ∨
     (a.colC l rest = 2 ∧ Up (a.colL l rest) a B N ∧ l.room < 3 * (B : Nat) + 1000)) := by
  obtain ⟨lg, sp, h⟩ := h
  obtain ⟨hka, hkk, hkl, hrl⟩ := h.rq
  have hsub := sub_of_asc ha hka hs
  have hls := liveK_sub hsub
  have hlen := hsub.length_le
  have hrk : KeyOK rest := fun p hp => hkk p (hs p hp)
  have hv := h.live
  have hbl := h.bl
  have hbs := h.bs
  have hcn := h.cnt
  have hn := batchL_length rest a.root
  have P2 := pre_batch hrk hrl
  have F2 := LogAt.fresh ha hrk hrl
  unfold Ab.colC Ab.colL Ab.less
  generalize batchL rest a.root = fs at *
  obtain ⟨hroom, ⟨e, hd, sp', hD, hsp⟩ | ⟨e, hd, hD, hq⟩ | ⟨e, hd, hD⟩⟩ := rep_ways h.dk h.down fs
  · refine ⟨hroom, .inr (.inl ⟨e, lg, sp', h.dn hD hd ?_ ?_ ?_ (Nat.le_refl _) (by omega)⟩)⟩
    · rcases hsp with rfl | rfl | rfl | rfl
      · exact h.spl
      · intro f hf; cases hf
      · intro f hf; cases hf; simp
      · intro f hf; cases hf; simp
    · rcases hsp with rfl | rfl | rfl | rfl
      · exact h.pre
      · exact Pre.nil
      · exact P2
      · exact P2
    · rcases hsp with rfl | rfl | rfl | rfl
      · omega
      · show 0 ≤ _; omega
      · show fs.length ≤ _; omega
      · show fs.length ≤ _; omega
  · refine ⟨hroom, .inr (.inr ⟨e, ⟨lg, none, hD, hd, h.ad, h.sure, (fun f hf => by cases hf), h.log, h.size, Pre.nil, by omega, Nat.zero_le _, by omega, by omega, h.key, h.asc⟩, ?_⟩)⟩
    omega
  · refine ⟨hroom, .inl ⟨e, some (fs, fs.length), none, hD, hd, h.ad, ?_, (fun f hf => by cases hf), ⟨_, Nat.le_refl _, F2⟩, rfl, Pre.nil, ?_, Nat.zero_le _, ?_, ?_, h.key, h.asc⟩⟩
    · intro f hf; cases hf; rfl
    · show fs.length ≤ _; omega
    · show liveK rest + liveK a.fresh + (13 + a.root.length) ≤ _; omega
    · show rest.length + a.fresh.length ≤ _; omega

/-! a fall, and the store opened anew -/
/-- A store as it is opened: what the log says. -/
def opened (lg : Option ((List UInt8) × Nat)) (r : Nat) (t : Bool) (root : List UInt8) (k : Tx) : Ab := ⟨(dat lg).length, r, t, root, k, [], false⟩
theorem dat_map {lg : Option ((List UInt8) × Nat)} {k : Int} : dat (lg.map (fallP k)) = (dat lg).take (kept (dat lg).length (lg.getD ([], 0)).2 k) := by
  cases lg with
  | none => simp [dat]
  | some f => rfl
theorem fall_sure {lg : Option ((List UInt8) × Nat)} {k : Int} (h : ∀ f, lg = some f → f.2 ≤ f.1.length) : ∀ f, lg.map (fallP k) = some f → f.2 = f.1.length := by
  intro f hf
  cases lg with
  | none => cases hf
  | some g =>
    have hg := h g rfl
    have := kept_between hg k
    cases hf
    show kept g.1.length g.2 k = (g.1.take (kept g.1.length g.2 k)).length
    rw [List.length_take]; omega
theorem sp_fall {sp : Option ((List UInt8) × Nat)} {k : Int} (hp : Pre (dat sp)) (hb : (dat sp).length ≤ B) : Pre (dat (sp.map (fallP k))) ∧ (dat (sp.map (fallP k))).length ≤ B := by
  rw [dat_map]
  refine ⟨hp.take _, ?_⟩
  rw [List.length_take]; omega
theorem Up.reopen (h : Up l a B N) (keep : List Int) : ∃ lg sp r t, LogAt (dat lg) a.root a.kept r t ∧ UpS (l.fall keep) lg sp (opened lg r t a.root a.kept) B N := by
  obtain ⟨lg, sp, h⟩ := h
  obtain ⟨k1, k2, hD⟩ := h.dk.fall keep
  obtain ⟨r, hr, hl⟩ := h.log
  have hs := sp_fall (k := k2) h.pre h.bs
  have hsure := sure_of h.sure
  have e : dat (lg.map (fallP k1)) = dat lg := by
    rw [dat_map, hsure]
    exact take_all (kept_between (Nat.le_refl _) k1).1
  have hv := h.live
  refine ⟨_, _, r, a.torn, by rw [e]; exact hl, hD, rfl, rfl, fall_sure fun f hf => Nat.le_of_eq (h.sure f hf), (fun f hf => Nat.le_of_eq (fall_sure h.spl f hf)), ⟨r, Nat.le_refl _, by rw [e]; exact hl⟩, rfl, hs.1, by rw [e]; exact h.bl, hs.2, ?_, ?_, KeyOK.nil, List.Pairwise.nil⟩
  · show r + 0 + (13 + a.root.length) ≤ B; omega
  · have := h.cnt; show a.kept.length + 0 ≤ N; omega
theorem Dn.reopen (h : Dn l a R K B N) (keep : List Int) : ∃ lg sp r t R' K', ((R' = a.root ∧ K' = a.kept) ∨ (R' = R ∧ K' = K)) ∧ LogAt (dat lg) R' K' r t ∧ UpS (l.fall keep) lg sp (opened lg r t R' K') B N := by
  obtain ⟨lg, sp, h⟩ := h
  obtain ⟨k1, k2, hD⟩ := h.dk.fall keep
  have hs := sp_fall (k := k2) h.pre h.bs
  have hle : (lg.getD ([], 0)).2 ≤ (dat lg).length := by
    cases lg with
    | none => exact Nat.le_refl _
    | some f => exact h.lgl f rfl
  have hb := kept_between hle k1
  have e : dat (lg.map (fallP k1)) = (dat lg).take (kept (dat lg).length (lg.getD ([], 0)).2 k1) := dat_map
  have hlen : (dat (lg.map (fallP k1))).length ≤ 2 * B + 1000 := by rw [e, List.length_take]; have := h.bl; omega
  obtain ⟨r, t, ⟨h1, h2⟩ | ⟨h1, h2⟩⟩ := h.fall _ hb.1 hb.2
  · refine ⟨_, _, r, t, a.root, a.kept, .inl ⟨rfl, rfl⟩, by rw [e]; exact h2, hD, rfl, rfl, fall_sure h.lgl, (fun f hf => Nat.le_of_eq (fall_sure h.spl f hf)), ⟨r, Nat.le_refl _, by rw [e]; exact h2⟩, rfl, hs.1, hlen, hs.2, ?_, ?_, KeyOK.nil, List.Pairwise.nil⟩
    · show r + 0 + (13 + a.root.length) ≤ B; omega
    · have := h.cnt; show a.kept.length + 0 ≤ N; omega
  · refine ⟨_, _, r, t, R, K, .inr ⟨rfl, rfl⟩, by rw [e]; exact h2, hD, rfl, rfl, fall_sure h.lgl, (fun f hf => Nat.le_of_eq (fall_sure h.spl f hf)), ⟨r, Nat.le_refl _, by rw [e]; exact h2⟩, rfl, hs.1, hlen, hs.2, ?_, ?_, KeyOK.nil, List.Pairwise.nil⟩
    · show r + 0 + (13 + R.length) ≤ B; omega
    · have := h.cntK; show K.length + 0 ≤ N; omega
end
/-- Of a new disk. -/
theorem up_new (room : Int) : UpS ⟨room, false, false, 0, []⟩ none none (opened none 0 false [] []) 13 0 :=
  ⟨⟨List.Pairwise.nil, fun _ _ _ => rfl, rfl, rfl⟩, rfl, rfl, (fun f hf => by cases hf), (fun f hf => by cases hf), ⟨0, Nat.le_refl _, LogAt.nil⟩, rfl, Pre.nil, Nat.zero_le _, Nat.zero_le _, Nat.le_refl _, Nat.le_refl _, KeyOK.nil, List.Pairwise.nil⟩
end Go.Proofs.YtogihpofkjpokaaGreatDoor
namespace Go.Proofs.YtogihpofkjpokaaGreatDoor
open Go Go.RowKit Go.Maps
open D4 (put Asc Lg)
open F5 (txt txt_size data_txt frameL flat be4 num4 lenW crcL w4 wbyte txt_take txt_drop)
open S1 (u)

set_option maxRecDepth 100000 in
set_option maxHeartbeats 400000 in
theorem cword_any (v : BitVec 32) (w : World) :
    Calls Tryz.prog 75 #[.int .u32 (F5.u v)] w fun e w' => e = .returned (.string ⟨(be4 v).toArray⟩) ∧ Below w.heap.size w w' := by
  have h0 := F5.u_nonneg v
  have h1 := F5.u_lt v
  have hc := F5.be4_run v w
  go_enter Tryz.func75, Tryz.ntmps75
  go_wp2
  go_ret
  exact ⟨rfl, (Below.refl _ _).alloc (Nat.le_refl _) _⟩
set_option maxRecDepth 100000 in
set_option maxHeartbeats 400000 in
theorem cnumber_any (s : ByteArray) (b0 b1 b2 b3 : UInt8) (h0 : s[0]? = some b0) (h1 : s[1]? = some b1) (h2 : s[2]? = some b2) (h3 : s[3]? = some b3) (w : World) :
    Calls Tryz.prog 74 #[.string s] w fun e w' => e = .returned (.int .u32 (F5.u (w4 b0 b1 b2 b3))) ∧ ∃ m, w' = w.drewN m := by
  have r0 := F5.run_index s .i64 0 0 rfl b0 h0
  have r1 := F5.run_index s .i64 1 1 rfl b1 h1
  have r2 := F5.run_index s .i64 2 2 rfl b2 h2
  have r3 := F5.run_index s .i64 3 3 rfl b3 h3
  clear h0 h1 h2 h3
  have hb := F5.wb_u
  go_enter Tryz.func74, Tryz.ntmps74
  go_wp2
  go_big_quiet (fail)
  rw [F5.u_shl24, F5.u_shl16, F5.u_shl8, F5.u_mod, F5.u_or, F5.u_or, F5.u_or]
  go_wp2
  go_ret
  exact ⟨rfl, nq, rfl⟩
theorem cnumber_txt (l : List UInt8) (h : 4 ≤ l.length) (w : World) :
    Calls Tryz.prog 74 #[.string (txt l)] w fun e w' => e = .returned (.int .u32 ((num4 l).toNat : Int)) ∧ ∃ m, w' = w.drewN m :=
  cnumber_any (txt l) _ _ _ _ (F5.txt_at l 0 (by omega)) (F5.txt_at l 1 (by omega)) (F5.txt_at l 2 (by omega)) (F5.txt_at l 3 (by omega)) w

/-- The length's word of what may be cut off. -/
def head4 (b : List UInt8) : (List UInt8) := (b ++ [0, 0, 0, 0]).take 4
theorem head4_len (b : List UInt8) : (head4 b).length = 4 := by unfold head4; rw [List.length_take, List.length_append]; simp
theorem head_small {p : List UInt8} (hp : p.length ≤ 1001) : wbyte (lenW p) 0 = 0 ∧ wbyte (lenW p) 1 = 0 := by
  have e : (lenW p).toNat = p.length := F5.lenW_toNat (by omega)
  constructor
  · apply UInt8.toNat_inj.1
    rw [F5.wbyte_nat, e, show 24 - 8 * 0 = 24 from rfl, Nat.div_eq_of_lt (by omega)]; rfl
  · apply UInt8.toNat_inj.1
    rw [F5.wbyte_nat, e, show 24 - 8 * 1 = 16 from rfl, Nat.div_eq_of_lt (by omega)]; rfl
theorem num4_small (c d : UInt8) : (num4 [0, 0, c, d]).toNat ≤ 65535 := by
  have e : num4 [0, 0, c, d] = w4 0 0 c d := rfl
  rw [e, F5.w4_toNat]
  have hc := c.toNat_lt
  have hd := d.toNat_lt
  have h0 : (0 : UInt8).toNat = 0 := rfl
  omega
theorem CutOff.num {b : List UInt8} (h : CutOff b) : (num4 (head4 b)).toNat ≤ 65535 := by
  obtain ⟨p, j, hp, hj, rfl⟩ := h
  obtain ⟨z0, z1⟩ := head_small hp.len.2
  have e : frameL p = wbyte (lenW p) 0 :: wbyte (lenW p) 1 :: wbyte (lenW p) 2 :: wbyte (lenW p) 3 :: (be4 (crcL (be4 (lenW p))) ++ (be4 (crcL p) ++ p)) := rfl
  rw [z0, z1] at e
  rw [e]
  match j with
  | 0 => exact num4_small 0 0
  | 1 => exact num4_small 0 0
  | 2 => exact num4_small 0 0
  | 3 => exact num4_small _ 0
  | j + 4 => exact num4_small _ _
theorem CutOff.long {b : List UInt8} (h : CutOff b) (hl : 4 < b.length) : b.length < 12 + (num4 (head4 b)).toNat ∧ Lib.hasPrefix (be4 (crcL (head4 b))) ((b.take (min b.length 8)).drop 4) = true := by
  obtain ⟨p, j, hp, hj, rfl⟩ := h
  have hlen : ((frameL p).take j).length = j := by rw [List.length_take]; omega
  rw [hlen] at hl ⊢
  obtain ⟨i, rfl⟩ : ∃ i, j = i + 4 := ⟨j - 4, by omega⟩
  have eh : head4 ((frameL p).take (i + 4)) = be4 (lenW p) := by
    rfl
  have en : num4 (be4 (lenW p)) = lenW p := by have := F5.num4_be4 (lenW p) []; rwa [List.append_nil] at this
  rw [eh, en, F5.lenW_toNat (by have := hp.len; omega)]
  refine ⟨by rw [F5.frameL_length] at hj; omega, ?_⟩
  rw [List.take_take]
  have e2 : ((frameL p).take (min (min (i + 4) 8) (i + 4))).drop 4 = (be4 (crcL (be4 (lenW p)))).take (min i 4) := by
    unfold frameL
    rw [List.drop_take, F5.drop_app (F5.be4_length _), List.take_append_of_le_length (by rw [F5.be4_length]; omega)]
    congr 1; omega
  rw [e2]
  unfold Lib.hasPrefix
  rw [List.isPrefixOf_iff_prefix]
  exact List.take_prefix _ _
theorem txt_extract (l : List UInt8) (a b : Nat) : (txt l).extract a b = txt ((l.take b).drop a) := by
  apply ByteArray.ext
  simp [txt, List.drop_take]
set_option maxRecDepth 100000 in
set_option maxHeartbeats 2000000 in
theorem cut_any {b : List UInt8} (h : CutOff b) (w : World) :
    Calls Tryz.prog 53 #[.string (txt b)] w fun e w' => e = .returned (.bool true) ∧ Below w.heap.size w w' := by
  have hz := txt_size b
  have hbl := h.len
  have hn := h.num
  have c1 : binOp .add 9 (.string (txt b)) (.string ⟨#[0, 0, 0, 0]⟩) = pure (.string (txt (b ++ [0, 0, 0, 0]))) := F5.cat b [0, 0, 0, 0] (by simp; omega)
  have e4 : (txt (b ++ [0, 0, 0, 0])).extract 0 4 = txt (head4 b) := F5.txt_take _ _
  have z4 : (txt (b ++ [0, 0, 0, 0])).size = b.length + 4 := by rw [txt_size, List.length_append]; rfl
  have P1 := Lib.hid (cnumber_txt (head4 b) (by rw [head4_len]; omega))
  have hn' : ((num4 (head4 b)).toNat : Int) ≤ 65535 := by omega
  have hn0 : (0 : Int) ≤ ((num4 (head4 b)).toNat : Int) := by omega
  have hbl' : (b.length : Int) ≤ 1012 := by omega
  by_cases hl : b.length ≤ 4
  · have hl' : (b.length : Int) ≤ 4 := by omega
    clear hn hbl h
    generalize (num4 (head4 b)).toNat = n at P1 hn' hn0
    generalize txt (head4 b) = t4 at e4 P1
    generalize txt (b ++ [0, 0, 0, 0]) = tb at c1 e4 z4
    generalize txt b = tt at hz c1 ⊢
    go_enter Tryz.func53, Tryz.ntmps53
    go_wp2_with (go_at_call 74; (with_reducible refine (P1.out _).mono ?_); rintro e w1 ⟨rfl, m, rfl⟩)
    go_ret
    exact ⟨rfl, (Ch.drewN (fun _ => False) w m).below (Nat.le_refl _) fun _ _ => id⟩
  · have hl' : (4 : Int) < (b.length : Int) := by omega
    have HL := h.long (by omega)
    obtain ⟨mm, hmm⟩ : ∃ mm : Nat, mm = min b.length 8 := ⟨_, rfl⟩
    have hmi : min (b.length : Int) 8 = (mm : Int) := by omega
    have hm1 : (4 : Int) ≤ (mm : Int) := by omega
    have hm2 : (mm : Int) ≤ (b.length : Int) := by omega
    have e8 := txt_extract b 4 mm
    rw [← hmm] at HL
    have P2 := Lib.hid (F5.check_txt (head4 b) (by rw [head4_len]; omega))
    have P3 := Lib.hid (cword_any (crcL (head4 b)))
    have P4 := Lib.hid (fun w => Tryz.strings_HasPrefix ⟨(be4 (crcL (head4 b))).toArray⟩ (txt ((b.take mm).drop 4)) w)
    rw [show (⟨(be4 (crcL (head4 b))).toArray⟩ : ByteArray).data.toList = be4 (crcL (head4 b)) from rfl, data_txt, HL.2] at P4
    have hlt := HL.1
    have hlt' : (b.length : Int) < 12 + ((num4 (head4 b)).toNat : Int) := by omega
    clear hn hbl h HL hlt hmm hl
    generalize (num4 (head4 b)).toNat = n at P1 hn' hn0 hlt'
    generalize (⟨(be4 (crcL (head4 b))).toArray⟩ : ByteArray) = tw at P3 P4
    generalize F5.u (crcL (head4 b)) = cc at P2 P3
    generalize txt (head4 b) = t4 at e4 P1 P2
    generalize txt ((b.take mm).drop 4) = t8 at e8 P4
    generalize txt (b ++ [0, 0, 0, 0]) = tb at c1 e4 z4
    generalize txt b = tt at hz c1 e8 ⊢
    go_enter Tryz.func53, Tryz.ntmps53
    go_wp2_with (first
      | (go_at_call 74; (with_reducible refine (P1.out _).mono ?_); rintro e w1 ⟨rfl, m, rfl⟩)
      | (go_at_call 76; (with_reducible refine (P2.out _).mono ?_); rintro e w2 ⟨rfl, rfl⟩)
      | (go_at_call 75; (with_reducible refine (P3.out _).mono ?_); rintro e w3 ⟨rfl, hb3⟩)
      | (go_at_call 52; (with_reducible refine (P4.out _).mono ?_); rintro e w4 ⟨rfl, rfl⟩))
    go_ret
    exact ⟨rfl, ((Ch.drewN (fun _ => False) w m).below (Nat.le_refl _) fun _ _ => id).trans hb3⟩
end Go.Proofs.YtogihpofkjpokaaGreatDoor
