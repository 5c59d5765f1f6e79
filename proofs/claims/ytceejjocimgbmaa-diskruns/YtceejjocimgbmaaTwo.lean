/- Both disks side by side: the program's and the document's. -/
import Derived.Test.YtceejjocimgbmaaRename
namespace Go.Proofs.Ytceejjocimgbmaa
open Go Go.RowKit Go.Maps

/-- Both lie apart, and apart from the blocks of K, in blocks from base on; since w0 nothing else has turned. -/
structure T (K : Nat → Prop) (base : Nat) (w0 w : World) (d r : Nat) (lp lr : Lg) : Prop where
  ex : ∃ D R : Nat → Prop, Dk w d lp D ∧ RDk w r lr R ∧ (∀ k, D k → R k → False) ∧ (∀ k, D k → base ≤ k ∧ ¬ K k ∧ k < w.heap.size) ∧ (∀ k, R k → base ≤ k ∧ ¬ K k ∧ k < w.heap.size)
  ch : Ch (fun k => base ≤ k ∧ ¬ K k) w0 w
  kl : ∀ k, K k → k < w0.heap.size
  bl : base ≤ w0.heap.size
section
variable {K K' : Nat → Prop} {base : Nat} {w0 w w' w1 w2 : World} {d r : Nat} {lp lr lp' lr' : Lg}
theorem T.cell (h : T K base w0 w d r lp lr) {p : Addr} {v : Value} (hc : w0.cell? p = some v) (hp : p.block < base ∨ K p.block) : w.cell? p = some v :=
  h.ch.cell hc fun e => hp.elim (fun h => by omega) fun h => e.2 h
theorem T.block (h : T K base w0 w d r lp lr) {k : Nat} {o : Obj} (hc : w0.heap[k]? = some o) (hp : k < base ∨ K k) : w.heap[k]? = some o :=
  (h.ch.block k (lt_of_heap hc) fun e => hp.elim (fun h => by omega) fun h => e.2 h).trans hc
/-- What a call on the program's disk does. -/
theorem T.prog {f : FuncId} {args : Array Value} {v : Value} (h : T K base w0 w d r lp lr)
    (hc : ∀ D, Dk w d lp D → Calls Try.prog f args w fun e w' => e = .returned v ∧ Dk w' d lp' (More D w w') ∧ Ch D w w') :
    Calls Try.prog f args w fun e w' => e = .returned v ∧ T K base w0 w' d r lp' lr := by
  obtain ⟨D, R, hD, hR, hdis, hDb, hRb⟩ := h.ex
  refine (hc D hD).mono ?_
  rintro e w' ⟨rfl, hD', hch⟩
  have hs0 := h.ch.size
  have hs1 := hch.size
  have hnew : ∀ k, w.heap.size ≤ k → base ≤ k ∧ ¬ K k := fun k hk => ⟨Nat.le_trans h.bl (Nat.le_trans hs0 hk), fun hK => by have := h.kl k hK; omega⟩
  refine ⟨rfl, ⟨More D w w', R, hD', hR.keep hch fun k hk hk' => hdis k hk' hk, fun k h1 h2 => ?_, fun k hk => ?_, fun k hk => ?_⟩, h.ch.tr (hch.mono fun k _ hk => ⟨(hDb k hk).1, (hDb k hk).2.1⟩), h.kl, h.bl⟩
  · rcases h1 with h1 | h1
    · exact hdis k h1 h2
    · have := (hRb k h2).2.2; omega
  · rcases hk with hk | hk
    · exact ⟨(hDb k hk).1, (hDb k hk).2.1, Nat.lt_of_lt_of_le (hDb k hk).2.2 hs1⟩
    · exact ⟨(hnew k hk.1).1, (hnew k hk.1).2, hk.2⟩
  · exact ⟨(hRb k hk).1, (hRb k hk).2.1, Nat.lt_of_lt_of_le (hRb k hk).2.2 hs1⟩
theorem T.prog' {f : FuncId} {args : Array Value} {v : Value} (h : T K base w0 w d r lp lr)
    (hc : ∀ D, Dk w d lp D → Calls Try.prog f args w fun e w' => e = .returned v ∧ Dk w' d lp' D ∧ Ch D w w') :
    Calls Try.prog f args w fun e w' => e = .returned v ∧ T K base w0 w' d r lp' lr :=
  h.prog fun D hD => (hc D hD).mono fun _ _ ⟨he, h1, h2⟩ => ⟨he, h1.mono fun _ _ hk => .inl hk, h2⟩
/-- What a call on the document's disk does. -/
theorem T.ref {f : FuncId} {args : Array Value} {v : Value} (h : T K base w0 w d r lp lr)
    (hc : ∀ u, RAt w r lr u → Calls Try.prog f args w fun e w' => e = .returned v ∧ RGot w w' r u lr') :
    Calls Try.prog f args w fun e w' => e = .returned v ∧ T K base w0 w' d r lp lr' := by
  obtain ⟨D, R, hD, ⟨u, hu, hr, hR⟩, hdis, hDb, hRb⟩ := h.ex
  refine (hc u hu).mono ?_
  rintro e w' ⟨rfl, u', hu', hown, hch⟩
  have hs0 := h.ch.size
  have hs1 := hch.size
  have hnew : ∀ k, w.heap.size ≤ k → base ≤ k ∧ ¬ K k := fun k hk => ⟨Nat.le_trans h.bl (Nat.le_trans hs0 hk), fun hK => by have := h.kl k hK; omega⟩
  refine ⟨rfl, ⟨D, More R w w', hD.keep hch fun k hk e => hdis k hk (e ▸ hr), ⟨u', hu', .inl hr, fun k hk => ?_⟩, fun k h1 h2 => ?_, fun k hk => ?_, fun k hk => ?_⟩, h.ch.tr (hch.mono fun k _ e => ⟨(hRb k (e ▸ hr)).1, (hRb k (e ▸ hr)).2.1⟩), h.kl, h.bl⟩
  · rcases hown k hk with h1 | h1
    · exact .inl (hR k h1)
    · exact .inr ⟨h1, (hu'.own.own k hk).2⟩
  · rcases h2 with h2 | h2
    · exact hdis k h1 h2
    · have := (hDb k h1).2.2; omega
  · exact ⟨(hDb k hk).1, (hDb k hk).2.1, Nat.lt_of_lt_of_le (hDb k hk).2.2 hs1⟩
  · rcases hk with hk | hk
    · exact ⟨(hRb k hk).1, (hRb k hk).2.1, Nat.lt_of_lt_of_le (hRb k hk).2.2 hs1⟩
    · exact ⟨(hnew k hk.1).1, (hnew k hk.1).2, hk.2⟩
/-- New blocks beside them. -/
theorem T.new (h : T K base w0 w d r lp lr) (hb : Below w.heap.size w w') : T K base w0 w' d r lp lr := by
  obtain ⟨D, R, hD, hR, hdis, hDb, hRb⟩ := h.ex
  have hs1 := hb.size
  exact ⟨⟨D, R, hD.new hb, hR.keep (Ch.of_new (S := fun _ => False) hb) fun _ _ => id, hdis, fun k hk => ⟨(hDb k hk).1, (hDb k hk).2.1, Nat.lt_of_lt_of_le (hDb k hk).2.2 hs1⟩, fun k hk => ⟨(hRb k hk).1, (hRb k hk).2.1, Nat.lt_of_lt_of_le (hRb k hk).2.2 hs1⟩⟩, h.ch.tr (Ch.of_new hb), h.kl, h.bl⟩
theorem T.drew (h : T K base w0 w d r lp lr) : T K base w0 w.drew d r lp lr := h.new (Ch.new (Ch.drew _ _))
theorem T.drewN (h : T K base w0 w d r lp lr) (q : Nat) : T K base w0 (w.drewN q) d r lp lr := h.new (Ch.new (Ch.drewN _ _ q))
/-- Further blocks are watched. -/
theorem T.push (h : T K base w0 w d r lp lr) (hb : Below w.heap.size w w1) (hK : ∀ k, K' k → K k ∨ (w.heap.size ≤ k ∧ k < w1.heap.size)) : T K' base w1 w1 d r lp lr := by
  obtain ⟨D, R, hD, hR, hdis, hDb, hRb⟩ := (h.new hb).ex
  obtain ⟨D0, R0, hD0, hR0, hdis0, hDb0, hRb0⟩ := h.ex
  have hs0 := h.ch.size
  have hs1 := hb.size
  refine ⟨⟨D0, R0, hD0.new hb, hR0.keep (Ch.of_new (S := fun _ => False) hb) fun _ _ => id, hdis0, fun k hk => ⟨(hDb0 k hk).1, fun e => ?_, Nat.lt_of_lt_of_le (hDb0 k hk).2.2 hs1⟩, fun k hk => ⟨(hRb0 k hk).1, fun e => ?_, Nat.lt_of_lt_of_le (hRb0 k hk).2.2 hs1⟩⟩, Ch.refl _ _, fun k hk => ?_, Nat.le_trans h.bl (Nat.le_trans hs0 hs1)⟩
  · rcases hK k e with e | e
    · exact (hDb0 k hk).2.1 e
    · have := (hDb0 k hk).2.2; omega
  · rcases hK k e with e | e
    · exact (hRb0 k hk).2.1 e
    · have := (hRb0 k hk).2.2; omega
  · rcases hK k hk with e | e
    · have := h.kl k e; omega
    · exact e.2
/-- .. and no longer. -/
theorem T.pop (h : T K base w0 w d r lp lr) (hb : Below w.heap.size w w1) (h2 : T K' base w1 w2 d r lp' lr') (hK : ∀ k, K k → K' k) : T K base w0 w2 d r lp' lr' := by
  obtain ⟨D, R, hD, hR, hdis, hDb, hRb⟩ := h2.ex
  exact ⟨⟨D, R, hD, hR, hdis, fun k hk => ⟨(hDb k hk).1, fun e => (hDb k hk).2.1 (hK k e), (hDb k hk).2.2⟩, fun k hk => ⟨(hRb k hk).1, fun e => (hRb k hk).2.1 (hK k e), (hRb k hk).2.2⟩⟩, (h.ch.tr (Ch.of_new hb)).tr (h2.ch.mono fun k _ e => ⟨e.1, fun e' => e.2 (hK k e')⟩), h.kl, h.bl⟩
end

/-! what is so of what is told -/
def Lg.Fine (l : Lg) : Prop := l.lim = true → 0 ≤ l.fuel
theorem At.ok {w : World} {d : Nat} {s : S} (h : At w d s) (hf : s.lg.Fine) : s.lg.Ok where
  asc := on_asc _ h.asc
  names := fun p hp => by
    obtain ⟨q, hq, rfl⟩ := List.mem_map.1 hp
    exact h.names q hq
  sure := fun p hp => by
    obtain ⟨q, hq, rfl⟩ := List.mem_map.1 hp
    exact (h.file q hq).2.2
  most := by rw [used_lg]; exact h.most
  room := h.room
  fuel := h.fuel
  lim := hf
theorem T.ok {K : Nat → Prop} {base : Nat} {w0 w : World} {d r : Nat} {lp lr : Lg} (h : T K base w0 w d r lp lr) (hf : lp.Fine) : lp.Ok := by
  obtain ⟨D, R, ⟨s, hA, rfl, _⟩, _⟩ := h.ex
  exact hA.ok hf
theorem step_lim (l : Lg) : l.step.lim = l.lim := by unfold Lg.step; split <;> (try split) <;> rfl
theorem Lg.Fine.step {l : Lg} (h : l.Fine) : l.step.Fine := by
  unfold Lg.Fine Lg.step at *
  split
  · split
    · intro _; show 0 ≤ l.fuel - 1; omega
    · intro e; exact h e
  · exact h
theorem Fine.of {l m : Lg} (h : l.Fine) (h1 : m.lim = l.lim) (h2 : m.fuel = l.fuel) : m.Fine := by unfold Lg.Fine at *; rw [h1, h2]; exact h
section
variable {l : Lg} (n t : List UInt8)
theorem app_fine (h : l.Fine) : (l.app n t).Fine := by
  unfold Lg.app
  split
  · exact h
  · split
    · split
      · exact h
      · split
        · exact Fine.of h.step rfl rfl
        · exact h.step
    · exact h
theorem sync_fine (h : l.Fine) : (l.sync n).Fine := by
  unfold Lg.sync
  split
  · split
    · exact Fine.of h.step rfl rfl
    · exact h.step
  · exact h
theorem dele_fine (h : l.Fine) : (l.dele n).Fine := by
  unfold Lg.dele
  split
  · split
    · exact Fine.of h.step rfl rfl
    · exact h.step
  · exact h
theorem ren_fine (h : l.Fine) : (l.ren n t).Fine := by
  unfold Lg.ren
  split
  · exact h
  · split
    · split
      · split
        · exact Fine.of h.step rfl rfl
        · exact h.step
      · exact h
    · exact h
theorem fall_fine (keep : List Int) : (l.fall keep).Fine := fun h => by cases h
theorem app_len : (l.app n t).fs.length ≤ l.fs.length + 1 := by
  unfold Lg.app
  split
  · omega
  · split
    · split
      · omega
      · split
        · exact put_len _ _ _
        · rw [step_fs']; omega
    · omega
theorem sync_len : (l.sync n).fs.length ≤ l.fs.length + 1 := by
  unfold Lg.sync
  split
  · split
    · exact put_len _ _ _
    · rw [step_fs']; omega
  · omega
theorem dele_len : (l.dele n).fs.length ≤ l.fs.length + 1 := by
  unfold Lg.dele
  split
  · split
    · exact Nat.le_succ_of_le (del_len _ _)
    · rw [step_fs']; omega
  · omega
theorem ren_len : (l.ren n t).fs.length ≤ l.fs.length + 1 := by
  unfold Lg.ren
  split
  · omega
  · split
    · split
      · split
        · exact Nat.le_trans (put_len _ _ _) (Nat.succ_le_succ (del_len _ _))
        · rw [step_fs']; omega
      · omega
    · omega
theorem fall_len (keep : List Int) : (l.fall keep).fs.length ≤ l.fs.length + 1 := by
  show (fallN keep l.fs.length l.fs).length ≤ _
  rw [fallN_length]; omega
end

/-! the calls on both -/
section
variable {K : Nat → Prop} {base : Nat} {w0 w : World} {d r : Nat} {lp lr : Lg}
theorem tp_append (h : T K base w0 w d r lp lr) (n t : ByteArray) (hlen : lp.fs.length ≤ 1000) (ht : t.size ≤ 1000000) :
    Calls Try.prog 10 #[dp d, .string n, .string t] w fun e w' => e = .returned (.int .i64 (lp.appC n.data.toList t.data.toList)) ∧ T K base w0 w' d r (lp.app n.data.toList t.data.toList) lr :=
  h.prog fun _ hD => append_any hD n t (by omega) (by omega)
theorem tp_sync (h : T K base w0 w d r lp lr) (n : ByteArray) :
    Calls Try.prog 15 #[dp d, .string n] w fun e w' => e = .returned (.int .i64 (lp.syncC n.data.toList)) ∧ T K base w0 w' d r (lp.sync n.data.toList) lr :=
  h.prog' fun _ hD => sync_any hD n
theorem tp_delete (h : T K base w0 w d r lp lr) (n : ByteArray) :
    Calls Try.prog 30 #[dp d, .string n] w fun e w' => e = .returned (.int .i64 (lp.syncC n.data.toList)) ∧ T K base w0 w' d r (lp.dele n.data.toList) lr :=
  h.prog' fun _ hD => delete_any hD n
theorem tp_rename (h : T K base w0 w d r lp lr) (n m : ByteArray) (hlen : lp.fs.length ≤ 1000) :
    Calls Try.prog 28 #[dp d, .string n, .string m] w fun e w' => e = .returned (.int .i64 (lp.renC n.data.toList m.data.toList)) ∧ T K base w0 w' d r (lp.ren n.data.toList m.data.toList) lr :=
  h.prog' fun _ hD => rename_any hD (by omega) n m
theorem tp_fall (h : T K base w0 w d r lp lr) (hlen : lp.fs.length ≤ 1000) (ka : Option Addr) (kc : Nat) (keep : List Int) (hK : RdI w ka keep) (hb : ∀ ad, ka = some ad → keep ≠ [] → ad.block < base) :
    Calls Try.prog 16 #[dp d, .slice ka keep.length kc] w fun e w' => e = .returned (.tuple #[]) ∧ T K base w0 w' d r (lp.fall keep) lr := by
  obtain ⟨D, R, hD, hR, hdis, hDb, hRb⟩ := h.ex
  refine (fall_any hD (by omega) ka kc keep hK fun ad e hne hk => ?_).mono ?_
  · have := (hDb _ hk).1
    have := hb ad e hne
    omega
  · rintro e w' ⟨rfl, hD', hch⟩
    have hs1 := hch.size
    refine ⟨rfl, ⟨D, R, hD', hR.keep hch fun k hk hk' => hdis k hk' hk, hdis, fun k hk => ⟨(hDb k hk).1, (hDb k hk).2.1, Nat.lt_of_lt_of_le (hDb k hk).2.2 hs1⟩, fun k hk => ⟨(hRb k hk).1, (hRb k hk).2.1, Nat.lt_of_lt_of_le (hRb k hk).2.2 hs1⟩⟩, h.ch.tr (hch.mono fun k _ hk => ⟨(hDb k hk).1, (hDb k hk).2.1⟩), h.kl, h.bl⟩
theorem tp_fuel (h : T K base w0 w d r lp lr) (n : Int) (hn : -9223372036854775808 ≤ n ∧ n ≤ 9223372036854775807) :
    Calls Try.prog 18 #[dp d, .int .i64 n] w fun e w' => e = .returned (.tuple #[]) ∧ T K base w0 w' d r { lp with lim := decide (0 ≤ n), fuel := n } lr :=
  h.prog' fun D hD => by
    obtain ⟨s, hA, rfl, hG⟩ := hD
    refine (fuel_any hA n hn).mono ?_
    rintro e w' ⟨rfl, hA', hc⟩
    exact ⟨rfl, ⟨_, hA', rfl, fun k hk => hG k (Foot.head (s := s) rfl rfl hk)⟩, hc.mono fun k _ e => e ▸ hG d (.inl rfl)⟩
theorem tp_room (h : T K base w0 w d r lp lr) (n : Int) (hn : -9223372036854775808 ≤ n ∧ n ≤ 9223372036854775807) :
    Calls Try.prog 33 #[dp d, .int .i64 n] w fun e w' => e = .returned (.tuple #[]) ∧ T K base w0 w' d r { lp with room := min (max n 0) 1073741824 } lr :=
  h.prog' fun D hD => by
    obtain ⟨s, hA, rfl, hG⟩ := hD
    refine (room_any hA n hn).mono ?_
    rintro e w' ⟨rfl, hA', hc⟩
    exact ⟨rfl, ⟨_, hA', rfl, fun k hk => hG k (Foot.head (s := s) rfl rfl hk)⟩, hc.mono fun k _ e => e ▸ hG d (.inl rfl)⟩
theorem tr_append (h : T K base w0 w d r lp lr) (ho : lr.Ok) (n t : ByteArray) (hlen : lr.fs.length ≤ 1000) (ht : t.size ≤ 1000000) :
    Calls Try.prog 21 #[dp r, .string n, .string t] w fun e w' => e = .returned (.int .i64 (lr.appC n.data.toList t.data.toList)) ∧ T K base w0 w' d r lp (lr.app n.data.toList t.data.toList) :=
  h.ref fun _ hR => rappend_any hR ho hlen n t (by omega)
theorem tr_sync (h : T K base w0 w d r lp lr) (ho : lr.Ok) (n : ByteArray) (hlen : lr.fs.length ≤ 1000) :
    Calls Try.prog 22 #[dp r, .string n] w fun e w' => e = .returned (.int .i64 (lr.syncC n.data.toList)) ∧ T K base w0 w' d r lp (lr.sync n.data.toList) :=
  h.ref fun _ hR => rsync_any hR ho hlen n
theorem tr_delete (h : T K base w0 w d r lp lr) (ho : lr.Ok) (n : ByteArray) (hlen : lr.fs.length ≤ 1000) :
    Calls Try.prog 31 #[dp r, .string n] w fun e w' => e = .returned (.int .i64 (lr.syncC n.data.toList)) ∧ T K base w0 w' d r lp (lr.dele n.data.toList) :=
  h.ref fun _ hR => rdelete_any hR ho hlen n
theorem tr_rename (h : T K base w0 w d r lp lr) (ho : lr.Ok) (n m : ByteArray) (hlen : lr.fs.length ≤ 1000) :
    Calls Try.prog 29 #[dp r, .string n, .string m] w fun e w' => e = .returned (.int .i64 (lr.renC n.data.toList m.data.toList)) ∧ T K base w0 w' d r lp (lr.ren n.data.toList m.data.toList) :=
  h.ref fun _ hR => rrename_any hR ho hlen n m
theorem tr_fall (h : T K base w0 w d r lp lr) (ho : lr.Ok) (hlen : lr.fs.length ≤ 1000) (ka : Option Addr) (kc : Nat) (keep : List Int) (hK : RdI w ka keep) :
    Calls Try.prog 32 #[dp r, .slice ka keep.length kc] w fun e w' => e = .returned (.tuple #[]) ∧ T K base w0 w' d r lp (lr.fall keep) :=
  h.ref fun _ hR => (rfall_any hR (by omega) ho.most ho.sure ka kc keep hK).mono fun _ _ ⟨he, v', h1, h2, h3⟩ => ⟨he, v', h1, fun j hj => .inr (h2 j hj), h3⟩
/-- A cell of the document's disk set. -/
theorem T.rset (h : T K base w0 w d r lp lr) (i : Nat) (x : Value) {l' : Lg} (hf : l'.fs = lr.fs) (hx : ∀ v, (lr.rcells v).setIfInBounds i x = l'.rcells v) : w.cell? ⟨r, 2, none⟩ = some (.int .i64 lr.rfuel) ∧ w.cell? ⟨r, 1, none⟩ = some (.int .i64 lr.room) ∧ w.frozen? ⟨r, i, none⟩ = false ∧ T K base w0 (w.setCell ⟨r, i, none⟩ x) d r lp l' := by
  obtain ⟨D, R, hD, ⟨u, hu, hr, hR⟩, hdis, hDb, hRb⟩ := h.ex
  have hch := Ch.set1 w r i x
  have hs1 := hch.size
  refine ⟨hu.c2, hu.c1, hu.fr i, ⟨D, R, hD.keep hch fun k hk e => hdis k hk (e ▸ hr), ⟨u, ⟨?_, ?_⟩, hr, hR⟩, hdis, fun k hk => ⟨(hDb k hk).1, (hDb k hk).2.1, Nat.lt_of_lt_of_le (hDb k hk).2.2 hs1⟩, fun k hk => ⟨(hRb k hk).1, (hRb k hk).2.1, Nat.lt_of_lt_of_le (hRb k hk).2.2 hs1⟩⟩, h.ch.tr (hch.mono fun k _ e => ⟨(hRb k (e ▸ hr)).1, (hRb k (e ▸ hr)).2.1⟩), h.kl, h.bl⟩
  · rw [← hx]; exact hu.set i x
  · rw [hf]; exact hu.own.keep hch fun k hk e => hu.ne (e ▸ hk)
end
end Go.Proofs.Ytceejjocimgbmaa
