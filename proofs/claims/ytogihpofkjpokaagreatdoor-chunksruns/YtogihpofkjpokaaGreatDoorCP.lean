/- Drop, Put, found, Commit, Collect; the calls as the laws meet them; awake. -/
import Derived.Test.YtogihpofkjpokaaGreatDoorCO
import Derived.Deep.RegionHeld3
namespace Go.Proofs.YtogihpofkjpokaaGreatDoor
open Go Go.RowKit Go.Maps
open D4 (put Asc Lg Dk dp)
open F5 (txt txt_size data_txt)

/-- The store's block turned, the rest as it was. -/
theorem St.upd {w : World} {sb d : Nat} {a a' : Ab} {km fm km' fm' : Option Nat} {l : Lg} {D G : Nat → Prop} (h : St w sb d a km fm l D G) (i : Nat) (x : Value) (he : (a.ss d km fm).cells.setIfInBounds i x = (a'.ss d km' fm').cells)
    (hk : a'.kept = a.kept) (hkm : km' = km) (hf : (fm' = fm ∧ a'.fresh = a.fresh) ∨ (fm' = none ∧ a'.fresh = [])) : St (w.setCell ⟨sb, i, none⟩ x) sb d a' km' fm' l D G := by
  subst hkm
  have hc : Ch (fun k => k = sb) w (w.setCell ⟨sb, i, none⟩ x) := Ch.setCell _ _ _ fun _ => rfl
  have hoff : ∀ m t, Pile w m t → ∀ b, m = some b → ¬ b = sb := fun m t hp b e hb => by
    obtain ⟨es, c, ho⟩ := hp.obj e
    have := h.sd.at_
    unfold SAt at this
    rw [← hb, ho] at this
    cases this
  have h0 : ¬ (0 : Nat) = sb := fun e => h.g0 (h.foot 0 (.inl e))
  refine ⟨h.sd.upd i x he rfl, by rw [hk]; exact h.pk.keep hc (hoff _ _ h.pk), ?_, h.kn, h.dk, ?_, ?_, ?_, KR_keep h.kr hc h0, h.g0⟩
  · rcases hf with ⟨rfl, e⟩ | ⟨rfl, e⟩
    · rw [e]; exact h.pf.keep hc (hoff _ _ h.pf)
    · rw [e]; exact Pile.nil _
  · rcases hf with ⟨rfl, _⟩ | ⟨rfl, _⟩
    · exact h.df
    · intro b e; cases e
  · rcases hf with ⟨rfl, _⟩ | ⟨rfl, _⟩
    · exact h.kf
    · intro b e; cases e
  · rcases hf with ⟨rfl, _⟩ | ⟨rfl, _⟩
    · exact h.foot
    · rintro k (e | e | e | e)
      · exact h.foot k (.inl e)
      · exact h.foot k (.inr (.inl e))
      · cases e
      · exact h.foot k (.inr (.inr (.inr e)))
set_option maxRecDepth 100000 in
theorem drop_any {w : World} {sb d : Nat} {a : Ab} {l : Lg} {G : Nat → Prop} (h : Str w sb d a l G) :
    Calls Tryz.prog 24 #[.pointer (some ⟨sb, 0, none⟩)] w fun e w' => e = .returned (.tuple #[]) ∧ Str w' sb d a.drop l G ∧ Ch G w w' := by
  obtain ⟨km, fm, D, h⟩ := h
  have c6 : w.cell? ⟨sb, 6, none⟩ = some (.map fm) := h.sd.at_.c6
  have f6 := h.sd.at_.fr 6
  have H := Lib.hid (h.upd (a' := a.drop) (km' := km) (fm' := none) 6 (.map none) rfl rfl rfl (.inr ⟨rfl, rfl⟩))
  have HG : Hid (G sb) := Lib.hid (h.foot sb (.inl rfl))
  clear h
  go_enter Tryz.func24, Tryz.ntmps24
  go_wp2
  go_end0
  exact ⟨rfl, ⟨km, none, D, H.out⟩, Ch.setCell _ _ _ fun _ => HG.out⟩
theorem sclone_any (n : List UInt8) (hn : n.length ≤ 1000000) (w : World) : Calls Tryz.prog 39 #[.string (txt n)] w fun e w' => e = .returned (.string (txt n)) ∧ Below w.heap.size w w' := D4.clone_any (txt n) w (by rw [txt_size]; omega)
/-- A pile of what is new, grown. -/
theorem St.more {w w2 : World} {sb d : Nat} {a : Ab} {km : Option Nat} {fb : Nat} {l : Lg} {D G : Nat → Prop} (h : St w sb d a km (some fb) l D G) (hc : Ch (fun k => k = fb) w w2) {f : Tx} (hp : Pile w2 (some fb) f) : St w2 sb d { a with fresh := f } km (some fb) l D G := by
  have hoff : ¬ sb = fb := fun e => by
    obtain ⟨es, c, ho⟩ := h.pf.obj rfl
    have := h.sd.at_
    unfold SAt at this
    rw [e, ho] at this
    cases this
  refine ⟨h.sd.keep hc hoff fun k hk e => h.df fb rfl (e ▸ hk), h.pk.keep hc fun b e e2 => h.kf fb rfl (by rw [e, e2]), hp, h.kn, h.dk, h.df, h.kf, h.foot, KR_keep h.kr hc fun e => h.g0 (h.foot 0 (.inr (.inr (.inl (by rw [e]))))), h.g0⟩
end Go.Proofs.YtogihpofkjpokaaGreatDoor
namespace Go.Proofs.YtogihpofkjpokaaGreatDoor
open Go Go.RowKit Go.Maps
open D4 (put Asc Lg Dk dp More)
open F5 (txt txt_size data_txt)

theorem map_nil71 (m : Option Nat) (w : World) : (binOp .eql 71 (.map m) (.map none)).run Tryz.prog w = .ok (.bool m.isNone) w := by
  simp only [binOp]
  simp [run_equal_map_nil w 71 9 79 m Tryz.underlying71]
/-- A map made for what is new. -/
theorem St.made {w : World} {sb d : Nat} {a : Ab} {km : Option Nat} {l : Lg} {D G : Nat → Prop} (h : St w sb d a km none l D G) (hG : ∀ k, G k → k < w.heap.size) :
    St ((w.setCell ⟨sb, 6, none⟩ (.map (some w.heap.size))).alloc (.map #[] 0)) sb d a km (some w.heap.size) l D (fun k => G k ∨ k = w.heap.size) := by
  have he := h.pf.nomap rfl
  have hz : (w.setCell ⟨sb, 6, none⟩ (.map (some w.heap.size))).heap.size = w.heap.size := by simp [World.setCell]
  have hc : Ch (fun k => k = sb) w (w.setCell ⟨sb, 6, none⟩ (.map (some w.heap.size))) := Ch.setCell _ _ _ fun _ => rfl
  have hc2 : Ch (fun k => k = sb) w ((w.setCell ⟨sb, 6, none⟩ (.map (some w.heap.size))).alloc (.map #[] 0)) := hc.tr (Ch.alloc _ _ _)
  have hoff : ∀ b, km = some b → ¬ b = sb := fun b e hb => by
    obtain ⟨es, c, ho⟩ := h.pk.obj e
    have := h.sd.at_
    unfold SAt at this
    rw [← hb, ho] at this
    cases this
  have hP := Pile.made (w.setCell ⟨sb, 6, none⟩ (.map (some w.heap.size)))
  rw [hz] at hP
  have hsd := h.sd.upd (s' := a.ss d km (some w.heap.size)) 6 (.map (some w.heap.size)) rfl rfl
  refine ⟨hsd.new ((Below.refl _ _).alloc (Nat.le_refl _) _), h.pk.keep hc2 hoff, by rw [he]; exact hP, h.kn, h.dk, fun b e hD => ?_, fun b e e2 => ?_, ?_, KR_keep h.kr hc2 (fun e => h.g0 (h.foot 0 (.inl e))), ?_⟩
  · cases e; have := hG _ (h.foot _ (.inr (.inr (.inr hD)))); omega
  · cases e; have := h.pk.lt e2; omega
  · rintro k (e | e | e | e)
    · exact .inl (h.foot k (.inl e))
    · exact .inl (h.foot k (.inr (.inl e)))
    · cases e; exact .inr rfl
    · exact .inl (h.foot k (.inr (.inr (.inr e))))
  · rintro (e | e)
    · exact h.g0 e
    · have := h.kr.pos; omega
set_option maxRecDepth 100000 in
set_option maxHeartbeats 4000000 in
theorem addFresh_some {w : World} {sb d : Nat} {a : Ab} {km : Option Nat} {fb : Nat} {l : Lg} {D G : Nat → Prop} (h : St w sb d a km (some fb) l D G) (p t : List UInt8) (hp : p.length ≤ 1000) (ht : t.length ≤ 1000) (hl : a.fresh.length ≤ 100000) :
    Calls Tryz.prog 35 #[.pointer (some ⟨sb, 0, none⟩), .string (txt p), .string (txt t)] w fun e w' => e = .returned (.tuple #[]) ∧ St w' sb d { a with fresh := put p t a.fresh } km (some fb) l D G ∧ Ch (fun k => k = fb) w w' := by
  have c6 : w.cell? ⟨sb, 6, none⟩ = some (.map (some fb)) := h.sd.at_.c6
  have hE := map_nil71 (some fb)
  have HC := Lib.hid (sclone_any t (by omega))
  have PU : Hid (∀ W, Below w.heap.size w W → W.cell? ⟨sb, 6, none⟩ = some (.map (some fb)) ∧ ∃ w2, (Instr.mapUpdate 71 (.map (some fb)) (.string (txt p)) (.agg #[.string (txt t)])).run Tryz.prog W = .ok () w2 ∧ St w2 sb d { a with fresh := put p t a.fresh } km (some fb) l D G ∧ Ch (fun k => k = fb) w w2) := Lib.hid fun W hW => by
    have h1 : St W sb d a km (some fb) l D G := h.keep (Ch.of_new (S := fun _ => False) hW) (fun _ _ => id) id
    obtain ⟨w2, hrun, hq, hc⟩ := h1.pf.update (txt p) (by rw [txt_size]; omega) t (by omega)
    rw [data_txt] at hq
    exact ⟨h1.sd.at_.c6, w2, hrun, h1.more hc hq, (Ch.of_new hW).tr hc⟩
  clear h
  generalize txt t = tt at HC PU
  generalize txt p = pp at PU
  go_enter Tryz.func35, Tryz.ntmps35
  go_wp2_with fail
  go_region_with (go_at_call 39; (with_reducible refine (HC.out _).mono ?_); rintro e w3 ⟨rfl, hb3⟩; obtain ⟨c6b, w4, hrun, hS, hCh⟩ := PU.out w3 (D4.undrew hb3); clear hb3)
  all_goals clear hrun c6b
  all_goals go_wp2
  all_goals (go_end0; exact ⟨rfl, hS, hCh⟩)
set_option maxRecDepth 100000 in
set_option maxHeartbeats 4000000 in
theorem addFresh_none {w : World} {sb d : Nat} {a : Ab} {km : Option Nat} {l : Lg} {D G : Nat → Prop} (h : St w sb d a km none l D G) (hG : ∀ k, G k → k < w.heap.size) (p t : List UInt8) (hp : p.length ≤ 1000) (ht : t.length ≤ 1000) :
    Calls Tryz.prog 35 #[.pointer (some ⟨sb, 0, none⟩), .string (txt p), .string (txt t)] w fun e w' => e = .returned (.tuple #[]) ∧ St w' sb d { a with fresh := put p t a.fresh } km (some w.heap.size) l D (fun k => G k ∨ k = w.heap.size) ∧ Ch G w w' ∧ w.heap.size < w'.heap.size := by
  have c6 : w.cell? ⟨sb, 6, none⟩ = some (.map none) := h.sd.at_.c6
  have f6 := h.sd.at_.fr 6
  have hE := map_nil71 none
  have HC := Lib.hid (sclone_any t (by omega))
  have hf := h.pf.nomap rfl
  have hM := h.made hG
  have hsb : G sb := h.foot sb (.inl rfl)
  have hcM : Ch G w ((w.setCell ⟨sb, 6, none⟩ (.map (some w.heap.size))).alloc (.map #[] 0)) := (Ch.setCell _ _ _ fun _ => hsb).tr (Ch.alloc _ _ _)
  have hz : ((w.setCell ⟨sb, 6, none⟩ (.map (some w.heap.size))).alloc (.map #[] 0)).heap.size = w.heap.size + 1 := by simp [World.setCell]
  have c6' : ((w.setCell ⟨sb, 6, none⟩ (.map (some w.heap.size))).alloc (.map #[] 0)).cell? ⟨sb, 6, none⟩ = some (.map (some w.heap.size)) := hM.sd.at_.c6
  have PU : Hid (∀ W, Below ((w.setCell ⟨sb, 6, none⟩ (.map (some w.heap.size))).alloc (.map #[] 0)).heap.size ((w.setCell ⟨sb, 6, none⟩ (.map (some w.heap.size))).alloc (.map #[] 0)) W → W.cell? ⟨sb, 6, none⟩ = some (.map (some w.heap.size)) ∧ ∃ w2, (Instr.mapUpdate 71 (.map (some w.heap.size)) (.string (txt p)) (.agg #[.string (txt t)])).run Tryz.prog W = .ok () w2 ∧ St w2 sb d { a with fresh := put p t a.fresh } km (some w.heap.size) l D (fun k => G k ∨ k = w.heap.size) ∧ Ch G w w2 ∧ w.heap.size < w2.heap.size) := Lib.hid fun W hW => by
    have h1 : St W sb d a km (some w.heap.size) l D (fun k => G k ∨ k = w.heap.size) := hM.keep (Ch.of_new (S := fun _ => False) hW) (fun _ _ => id) id
    obtain ⟨w2, hrun, hq, hc⟩ := h1.pf.update (txt p) (by rw [txt_size]; omega) t (by rw [hf]; simp)
    rw [data_txt] at hq
    have hs := hW.size
    rw [hz] at hs
    have hs2 := hc.size
    refine ⟨h1.sd.at_.c6, w2, hrun, h1.more hc hq, (hcM.tr (Ch.of_new hW)).trans hc fun j hj e => by omega, by omega⟩
  have hmm := @run_makeMap Tryz.prog
  have hlt := h.sd.at_.lt
  clear h hM hcM
  generalize txt t = tt at HC PU
  generalize txt p = pp at PU
  go_enter Tryz.func35, Tryz.ntmps35
  go_wp2_with fail
  go_region_with (go_at_call 39; (with_reducible refine (HC.out _).mono ?_); rintro e w3 ⟨rfl, hb3⟩; obtain ⟨c6b, w4, hrun, hS, hCh, hsz⟩ := PU.out w3 (D4.undrew hb3); clear hb3)
  all_goals clear hrun c6b
  all_goals go_wp2
  all_goals (go_end0; exact ⟨rfl, hS, hCh, hsz⟩)
theorem addFresh_any {w : World} {sb d : Nat} {a : Ab} {l : Lg} {G : Nat → Prop} (h : Str w sb d a l G) (p t : List UInt8) (hp : p.length ≤ 1000) (ht : t.length ≤ 1000) (hl : a.fresh.length ≤ 100000) :
    Calls Tryz.prog 35 #[.pointer (some ⟨sb, 0, none⟩), .string (txt p), .string (txt t)] w fun e w' => e = .returned (.tuple #[]) ∧ Str w' sb d { a with fresh := put p t a.fresh } l (More G w w') ∧ Ch G w w' := by
  have hpos := h.pos
  have hg0 := h.g0
  obtain ⟨km, fm, D, h⟩ := h.low
  cases fm with
  | none =>
    refine (addFresh_none h (fun k hk => hk.2) p t hp ht).mono ?_
    rintro e w' ⟨rfl, hS, hc, hz⟩
    refine ⟨rfl, Str.mono ⟨_, _, _, hS⟩ (fun k hk hG => ?_) (More.not hg0 hpos), hc.mono fun _ _ e => e.1⟩
    rcases hG with e | e
    · exact .inl e.1
    · exact .inr ⟨by omega, hk⟩
  | some fb =>
    refine (addFresh_some h p t hp ht hl).mono ?_
    rintro e w' ⟨rfl, hS, hc⟩
    have hfb := h.foot fb (.inr (.inr (.inl rfl)))
    exact ⟨rfl, Str.mono ⟨_, _, _, hS⟩ (fun k hk hG => .inl hG.1) (More.not hg0 hpos), hc.mono fun _ _ e => by rw [e]; exact hfb.1⟩
set_option maxRecDepth 100000 in
set_option maxHeartbeats 2000000 in
theorem put_any {w : World} {sb d : Nat} {a : Ab} {l : Lg} {G : Nat → Prop} (h : Str w sb d a l G) (hd : a.down = false) (t : List UInt8) (ht : t.length ≤ 1000) (hl : a.fresh.length ≤ 100000) :
    Calls Tryz.prog 11 #[.pointer (some ⟨sb, 0, none⟩), .string (txt t)] w fun e w' => e = .returned (.tuple #[.string (txt (sha t)), .int .i64 0]) ∧ Str w' sb d (a.putF t) l (More G w w') ∧ Ch G w w' := by
  have c7 : w.cell? ⟨sb, 7, none⟩ = some (.bool false) := by
    obtain ⟨km, fm, D, h⟩ := h
    rw [← hd]; exact h.sd.at_.c7
  have hz := txt_size t
  have ht' : (t.length : Int) ≤ 1000 := by omega
  have P1 : Hid (∀ W, Below w.heap.size w W → Calls Tryz.prog 34 #[.string (txt t)] W fun e w' => e = .returned (.string (txt (sha t))) ∧ Below W.heap.size W w') := Lib.hid fun W hW => S1.print_any (txt t) (by rw [txt_size]; omega) W (h.kr.step hW)
  have P2 : Hid (∀ W, Below w.heap.size w W → Calls Tryz.prog 18 #[.pointer (some ⟨sb, 0, none⟩), .string (txt (sha t))] W fun e w' => e = .returned (.tuple #[.string (txt (txo (a.get (sha t)))), .bool (a.get (sha t)).isSome]) ∧ Below W.heap.size W w') := Lib.hid fun W hW => sget_any (h.new hW) (sha t) (by rw [sha_len]; omega)
  have P3 : Hid (∀ W, Below w.heap.size w W → Calls Tryz.prog 35 #[.pointer (some ⟨sb, 0, none⟩), .string (txt (sha t)), .string (txt t)] W fun e w' => e = .returned (.tuple #[]) ∧ Str w' sb d { a with fresh := put (sha t) t a.fresh } l (More G w w') ∧ Ch G w w') := Lib.hid fun W hW => by
    refine (addFresh_any (h.new hW) (sha t) t (by rw [sha_len]; omega) ht hl).mono ?_
    rintro e w' ⟨rfl, hS, hc⟩
    exact ⟨rfl, hS.mono (fun k hk hG => hG.imp id fun e => ⟨Nat.le_trans hW.size e.1, e.2⟩) (More.not h.g0 h.pos), (Ch.of_new hW).tr hc⟩
  have PE : Hid (∀ W, Below w.heap.size w W → Str W sb d a l (More G w W)) := Lib.hid fun W hW => (h.new hW).mono (fun k _ hG => .inl hG) (More.not h.g0 h.pos)
  unfold Ab.putF
  cases hg : (a.get (sha t)).isSome with
  | true =>
    rw [hg] at P2
    clear h hg
    simp only [if_true]
    generalize txt (txo (a.get (sha t))) = tg at P2
    generalize txt (sha t) = ts at P1 P2 P3 ⊢
    generalize txt t = tt at hz P1 P3 ⊢
    go_enter Tryz.func11, Tryz.ntmps11
    go_wp2_with (first
      | (go_at_call 34; (with_reducible refine (P1.out _ (Below.refl _ _)).mono ?_); rintro e w1 ⟨rfl, hb1⟩)
      | (go_at_call 18; (with_reducible refine (P2.out _ hb1).mono ?_); rintro e w2 ⟨rfl, hb2⟩))
    go_ret2
    have hB := hb1.trans (hb2.mono hb1.size)
    exact ⟨rfl, PE.out _ hB, Ch.of_new hB⟩
  | false =>
    rw [hg] at P2
    clear h hg
    simp only [Bool.false_eq_true, if_false]
    generalize txt (txo (a.get (sha t))) = tg at P2
    generalize txt (sha t) = ts at P1 P2 P3 ⊢
    generalize txt t = tt at hz P1 P3 ⊢
    go_enter Tryz.func11, Tryz.ntmps11
    go_wp2_with (first
      | (go_at_call 34; (with_reducible refine (P1.out _ (Below.refl _ _)).mono ?_); rintro e w1 ⟨rfl, hb1⟩)
      | (go_at_call 18; (with_reducible refine (P2.out _ hb1).mono ?_); rintro e w2 ⟨rfl, hb2⟩; have hB := hb1.trans (hb2.mono hb1.size))
      | (go_at_call 35; (with_reducible refine (P3.out _ hB).mono ?_); rintro e w3 ⟨rfl, hS, hc⟩))
    go_ret2
    exact ⟨rfl, hS, hc⟩
set_option maxRecDepth 100000 in
theorem put_down {w : World} {sb d : Nat} {a : Ab} {l : Lg} {G : Nat → Prop} (h : Str w sb d a l G) (hd : a.down = true) (t : List UInt8) (ht : t.length ≤ 1000) :
    Calls Tryz.prog 11 #[.pointer (some ⟨sb, 0, none⟩), .string (txt t)] w fun e w' => e = .returned (.tuple #[.string (txt []), .int .i64 3]) ∧ w' = w := by
  have c7 : w.cell? ⟨sb, 7, none⟩ = some (.bool true) := by
    obtain ⟨km, fm, D, h⟩ := h
    rw [← hd]; exact h.sd.at_.c7
  have hz := txt_size t
  have ht' : (t.length : Int) ≤ 1000 := by omega
  clear h
  generalize txt t = tt at hz ⊢
  go_enter Tryz.func11, Tryz.ntmps11
  go_wp2
  go_ret2
  exact ⟨rfl, rfl⟩
end Go.Proofs.YtogihpofkjpokaaGreatDoor
namespace Go.Proofs.YtogihpofkjpokaaGreatDoor
open Go Go.RowKit Go.Maps
open D4 (put Asc Lg Dk dp More)
open F5 (txt txt_size data_txt)

set_option maxRecDepth 100000 in
theorem found_ok {w : World} (sb : Nat) (c : Int) (hc : c ≠ 3) :
    Calls Tryz.prog 36 #[.pointer (some ⟨sb, 0, none⟩), .int .i64 c] w fun e w' => e = .returned (.int .i64 c) ∧ w' = w := by
  go_enter Tryz.func36, Tryz.ntmps36
  go_wp2
  go_ret
  exact ⟨rfl, rfl⟩
set_option maxRecDepth 100000 in
theorem found_down {w : World} {sb : Nat} {s : SS} (h : SAt w sb s) :
    Calls Tryz.prog 36 #[.pointer (some ⟨sb, 0, none⟩), .int .i64 3] w fun e w' => e = .returned (.int .i64 3) ∧ w' = w.setCell ⟨sb, 7, none⟩ (.bool true) := by
  have c7 := h.c7
  have f7 := h.fr 7
  clear h
  go_enter Tryz.func36, Tryz.ntmps36
  go_wp2
  go_ret
  exact ⟨rfl, rfl⟩
/-- What a Commit leaves of a store. -/
def Ab.comA (a : Ab) (l : Lg) (r : List UInt8) : Ab := if a.comC l r = 0 then a.done r else if a.comC l r = 3 then a.drop.out else a.drop
theorem Fits.of {k : Tx} (h1 : k.length ≤ 1000) (h2 : KeyOK k) : Fits k := ⟨h1, fun p hp => ⟨by rw [(h2 p hp).1, sha_len]; omega, (h2 p hp).2⟩⟩
/-- What add leaves, as a store's own cells. -/
theorem addS_done {a : Ab} {l : Lg} {d : Nat} {km : Option Nat} {r : List UInt8} (hc : a.comC l r = 0) : addS l (a.drop.ss d km none) a.kept a.fresh r = { ((a.done r).ss d km none) with root := a.root, down := a.down } := by
  have e : addC l (a.drop.ss d km none) a.kept a.fresh r = a.comC l r := rfl
  unfold addS Ab.done
  rw [e, if_pos hc]
  have e2 : (a.drop.ss d km none).anew (batchL a.fresh r).length = a.anew (batchL a.fresh r).length := rfl
  rw [e2]
  split <;> rfl
theorem addS_not {a : Ab} {l : Lg} {d : Nat} {km : Option Nat} {r : List UInt8} (hc : a.comC l r ≠ 0) : addS l (a.drop.ss d km none) a.kept a.fresh r = a.drop.ss d km none := by
  have e : addC l (a.drop.ss d km none) a.kept a.fresh r = a.comC l r := rfl
  unfold addS
  rw [e, if_neg hc]
/-- A store made anew of its block and its pile. -/
theorem St.of {w : World} {sb d : Nat} {a : Ab} {kb : Nat} {l : Lg} {D G : Nat → Prop} (h : SD w sb (a.ss d (some kb) none) l D) (hp : Pile w (some kb) a.kept) (hf : a.fresh = []) (hd : ¬ D kb) (h1 : G sb) (h2 : G kb) (h3 : ∀ k, D k → G k) (hk : S1.KR w) (h0 : ¬ G 0) : St w sb d a (some kb) none l D G :=
  ⟨h, hp, by rw [hf]; exact Pile.nil _, by simp, fun b e => (by cases e; exact hd), (fun b e => by cases e), (fun b e => by cases e), by
    rintro k (rfl | e | e | e)
    · exact h1
    · cases e; exact h2
    · cases e
    · exact h3 k e, hk, h0⟩
set_option maxRecDepth 100000 in
set_option maxHeartbeats 8000000 in
theorem commit_any {w : World} {sb d : Nat} {a : Ab} {l : Lg} {G : Nat → Prop} (h : Str w sb d a l G) (hd : a.down = false) (r : List UInt8) (hr : r.length ≤ 1000) (fk : Fits a.kept) (ff : Fits a.fresh) (hl : l.fs.length ≤ 1000) (hz : a.size ≤ 10000000) (hv : a.live ≤ 10000000) :
    Calls Tryz.prog 12 #[.pointer (some ⟨sb, 0, none⟩), .string (txt r)] w fun e w' => e = .returned (.int .i64 (a.comC l r)) ∧ Str w' sb d (a.comA l r) (a.comL l r) (More G w w') ∧ Ch G w w' := by
  have hpos := h.pos
  have hg0 := h.g0
  obtain ⟨km, fm, D, h⟩ := h.low
  obtain ⟨kb, hkb⟩ : ∃ kb, km = some kb := by
    cases hkm : km with
    | none => exact absurd hkm h.kn
    | some b => exact ⟨b, rfl⟩
  subst hkb
  have c6 : w.cell? ⟨sb, 6, none⟩ = some (.map fm) := h.sd.at_.c6
  have hsz := txt_size r
  have hr' : (r.length : Int) ≤ 1000 := by omega
  have hGs : G sb := (h.foot sb (.inl rfl)).1
  have hGk : G kb := (h.foot kb (.inr (.inl rfl))).1
  have hGD : ∀ k, D k → G k := fun k hk => (h.foot k (.inr (.inr (.inr hk)))).1
  have hkbw := h.pk.lt rfl
  have hsbw := h.sd.at_.lt
  -- ahead of add
  have hdrop : St (w.setCell ⟨sb, 6, none⟩ (.map none)) sb d a.drop (some kb) none l D fun k => G k ∧ k < w.heap.size := h.upd (a' := a.drop) (km' := some kb) (fm' := none) 6 (.map none) rfl rfl rfl (.inr ⟨rfl, rfl⟩)
  have hcd : Ch (fun k => k = sb) w (w.setCell ⟨sb, 6, none⟩ (.map none)) := Ch.setCell _ _ _ fun _ => rfl
  have hPF : Pile (w.setCell ⟨sb, 6, none⟩ (.map none)) fm a.fresh := h.pf.keep hcd fun b e hb => by
    obtain ⟨es, c, ho⟩ := h.pf.obj e
    have := h.sd.at_
    unfold SAt at this
    rw [← hb, ho] at this
    cases this
  have P24 : Hid (Calls Tryz.prog 24 #[.pointer (some ⟨sb, 0, none⟩)] w fun e w' => e = .returned (.tuple #[]) ∧ w' = w.setCell ⟨sb, 6, none⟩ (.map none)) := Lib.hid (by
    have f6 := h.sd.at_.fr 6
    clear hdrop hPF hcd h
    go_enter Tryz.func24, Tryz.ntmps24
    go_wp2
    go_end0
    exact ⟨rfl, rfl⟩)
  have c7 : (w.setCell ⟨sb, 6, none⟩ (.map none)).cell? ⟨sb, 7, none⟩ = some (.bool false) := by rw [← hd]; exact hdrop.sd.at_.c7
  have c5 : (w.setCell ⟨sb, 6, none⟩ (.map none)).cell? ⟨sb, 5, none⟩ = some (.map (some kb)) := hdrop.sd.at_.c5
  have hszd : (w.setCell ⟨sb, 6, none⟩ (.map none)).heap.size = w.heap.size := by simp [World.setCell]
  generalize hWd : w.setCell ⟨sb, 6, none⟩ (.map none) = Wd at *
  have hDk : ∀ b, D b → b ≠ kb := fun b hb e => hdrop.dk kb rfl (e ▸ hb)
  have PA : Hid (∀ W, Below Wd.heap.size Wd W → Calls Tryz.prog 37 #[.pointer (some ⟨sb, 0, none⟩), .map (some kb), .map fm, .string (txt r)] W fun e w' => e = .returned (.int .i64 (a.comC l r)) ∧ SD w' sb (addS l (a.drop.ss d (some kb) none) a.kept a.fresh r) (a.comL l r) (More D Wd w') ∧ Pile w' (some kb) a.kept ∧ Pile w' fm a.fresh ∧ Ch (fun k => k = sb ∨ D k) Wd w') := Lib.hid fun W hW => by
    have h1 := hdrop.sd.new hW
    refine (add_any h1 (hdrop.pk.new hW) (hPF.new hW) fk ff r hr hl hz hv).mono ?_
    rintro e w' ⟨rfl, hS, hc⟩
    have hc2 : Ch (fun k => k = sb ∨ D k) Wd w' := (Ch.of_new hW).tr hc
    exact ⟨rfl, hdrop.sd.after hW hS, hdrop.pk.keep hc2 (mapOff hdrop.pk hdrop.sd.at_ hdrop.dk), hPF.keep hc2 (mapOff hPF hdrop.sd.at_ h.df), hc2⟩
  have hKRd : S1.KR Wd := hdrop.kr
  have hsb0 : sb ≠ 0 := fun e => hg0 (e ▸ hGs)
  have hD0 : ¬ D 0 := fun e => hg0 (hGD 0 e)
  have hCwd : Ch G w Wd := hcd.mono fun _ _ e => by rw [e]; exact hGs
  have hkf : ∀ b, fm = some b → b ≠ kb := fun b e e2 => h.kf b e (by rw [e2])
  have hDb : ∀ k, D k → k < w.heap.size := fun k hk => (h.foot k (.inr (.inr (.inr hk)))).2
  have hkbd : ∀ w', ¬ More D Wd w' kb := fun w' e => by
    rcases e with e | e
    · exact hDk kb e rfl
    · omega
  have hfl := ff.len
  have hkl := fk.len
  have hfn : ∀ p ∈ a.fresh, p.1.length ≤ 1000 := fun p hp => (ff.each p hp).1
  have HW := Lib.hid (And.intro hsbw hkbw)
  unfold Ab.comA
  by_cases hc0 : a.comC l r = 0
  · rw [hc0, if_pos rfl]
    rw [hc0, addS_done hc0] at PA
    have PC : Hid (∀ W, Pile W (some kb) a.kept → Pile W fm a.fresh → Calls Tryz.prog 38 #[.map (some kb), .map fm] W fun e w' => e = .returned (.tuple #[]) ∧ Pile w' (some kb) (putAll a.kept a.fresh) ∧ Ch (fun j => j = kb) W w') := Lib.hid fun W h1 h2 => copy_any h1 h2 (fun e => hkf kb e rfl) (by omega) hfn
    have PD := Lib.hid (sclone_any r (by omega))
    have PF := Lib.hid (fun W => found_ok (w := W) sb 0 (by decide))
    have HE : Hid (∀ w1 w2 w3, SD w1 sb { ((a.done r).ss d (some kb) none) with root := a.root, down := a.down } (a.comL l r) (More D Wd w1) → Ch (fun k => k = sb ∨ D k) Wd w1 → Pile w2 (some kb) (putAll a.kept a.fresh) → Ch (fun j => j = kb) w1 w2 → Below w2.heap.size w2 w3 → w3.cell? ⟨sb, 4, none⟩ = some (.string (txt a.root)) ∧ w3.frozen? ⟨sb, 4, none⟩ = false ∧ Str (w3.setCell ⟨sb, 4, none⟩ (.string (txt r))) sb d (a.done r) (a.comL l r) (More G w (w3.setCell ⟨sb, 4, none⟩ (.string (txt r)))) ∧ Ch G w (w3.setCell ⟨sb, 4, none⟩ (.string (txt r)))) := Lib.hid fun w1 w2 w3 hS1 hc1 hp2 hc2 hb3 => by
      have hskb : ¬ sb = kb := fun e => by
        obtain ⟨es, c, ho⟩ := hdrop.pk.obj rfl
        have := hdrop.sd.at_
        unfold SAt at this
        rw [e, ho] at this
        cases this
      have hS3 := (hS1.keep hc2 hskb fun k hk e => hkbd w1 (e ▸ hk)).new hb3
      have hr1 : (a.done r).root = r := by unfold Ab.done; split <;> rfl
      have hr2 : (a.done r).down = false := by unfold Ab.done; split <;> rfl
      have hr3 : (a.done r).kept = putAll a.kept a.fresh := by unfold Ab.done; split <;> rfl
      have hr4 : (a.done r).fresh = [] := by unfold Ab.done; split <;> rfl
      have hU := hS3.upd (s' := (a.done r).ss d (some kb) none) 4 (.string (txt r)) (by unfold SS.cells Ab.ss; simp only [hr1, hr2, hd]; rfl) rfl
      have hcA : Ch (fun k => k = sb ∨ D k ∨ k = kb) Wd w3 := ((hc1.mono fun _ _ e => e.elim .inl fun e => .inr (.inl e)).tr (hc2.mono fun _ _ e => .inr (.inr e))).tr (Ch.of_new hb3)
      have hcB : Ch (fun k => k = sb ∨ D k ∨ k = kb) Wd (w3.setCell ⟨sb, 4, none⟩ (.string (txt r))) := hcA.tr (Ch.setCell _ _ _ fun _ => .inl rfl)
      have hkb0 : kb ≠ 0 := fun e => hg0 (e ▸ hGk)
      have hz1 := hc1.size
      have hz2 := hc2.size
      have hz3 := hb3.size
      have hz4 : (w3.setCell ⟨sb, 4, none⟩ (.string (txt r))).heap.size = w3.heap.size := by simp [World.setCell]
      refine ⟨hS3.at_.c4, hS3.at_.fr 4, ⟨some kb, none, More D Wd w1, St.of hU (by rw [hr3]; exact (hp2.new hb3).keep (Ch.setCell (S := fun k => k = sb) _ _ _ fun _ => rfl) fun b e => (by cases e; exact fun e => hskb e.symm)) hr4 (hkbd w1) (.inl hGs) (.inl hGk) (fun k hk => ?_) (KR_keep hKRd hcB ?_) (More.not hg0 hpos)⟩, hCwd.trans hcB fun j hj e => ?_⟩
      · rcases hk with e | e
        · exact .inl (hGD k e)
        · exact .inr ⟨by omega, by omega⟩
      · rintro (e | e | e)
        · exact hsb0 e.symm
        · exact hD0 e
        · exact hkb0 e.symm
      · rcases e with e | e | e
        · rw [e]; exact hGs
        · exact hGD j e
        · rw [e]; exact hGk
    have H5 : Hid (∀ w1, SD w1 sb { ((a.done r).ss d (some kb) none) with root := a.root, down := a.down } (a.comL l r) (More D Wd w1) → w1.cell? ⟨sb, 5, none⟩ = some (.map (some kb))) := Lib.hid fun w1 h1 => h1.at_.c5
    clear h hdrop hPF hc0 fk ff hfn hd
    generalize a.comL l r = l2 at *
    generalize { ((a.done r).ss d (some kb) none) with root := a.root, down := a.down } = S0 at *
    generalize a.done r = a2 at *
    generalize txt a.root = tr0 at *
    generalize txt r = tr at *
    go_enter Tryz.func12, Tryz.ntmps12
    go_wp2_with (go_at_call 24; (with_reducible refine P24.out.mono ?_); rintro e w0 ⟨rfl, hw0⟩; subst w0)
    go_region_held3 (fun V => V.cell? ⟨sb, 5, none⟩ = some (.map (some kb)))
      (first | exact c5 | exact H5.out _ hS1)
      (first
        | (go_at_call 37; (with_reducible refine (PA.out _ ((Below.refl _ _).drew)).mono ?_); rintro e w1 ⟨rfl, hS1, hp1, hq1, hc1⟩)
        | (go_at_call 36; (with_reducible refine (PF.out _).mono ?_); rintro e w1b ⟨rfl, hw1b⟩; subst w1b))
    have c51 := H5.out _ hS1
    go_wp2_with (first
      | (go_at_call 38; (with_reducible refine (PC.out _ hp1 hq1).mono ?_); rintro e w2 ⟨rfl, hp2, hc2⟩)
      | (go_at_call 39; (with_reducible refine (PD.out _).mono ?_); rintro e w3 ⟨rfl, hb3⟩; obtain ⟨c4, f4, hS3, hc3⟩ := HE.out _ _ _ hS1 hc1 hp2 hc2 hb3))
    go_ret
    exact ⟨rfl, hS3, hc3⟩
  · rw [if_neg hc0]
    rw [addS_not hc0] at PA
    have H5 : Hid (∀ w1, SD w1 sb (a.drop.ss d (some kb) none) (a.comL l r) (More D Wd w1) → w1.cell? ⟨sb, 5, none⟩ = some (.map (some kb))) := Lib.hid fun w1 h1 => h1.at_.c5
    have HE : Hid (∀ w1, SD w1 sb (a.drop.ss d (some kb) none) (a.comL l r) (More D Wd w1) → Pile w1 (some kb) a.kept → Ch (fun k => k = sb ∨ D k) Wd w1 → St w1 sb d a.drop (some kb) none (a.comL l r) (More D Wd w1) (More G w w1) ∧ Ch G w w1) := Lib.hid fun w1 hS1 hp1 hc1 => by
      have hz1 := hc1.size
      refine ⟨St.of hS1 hp1 rfl (hkbd w1) (.inl hGs) (.inl hGk) (fun k hk => ?_) (KR_keep hKRd hc1 ?_) (More.not hg0 hpos), hCwd.trans hc1 fun j hj e => ?_⟩
      · rcases hk with e | e
        · exact .inl (hGD k e)
        · exact .inr ⟨by omega, by omega⟩
      · rintro (e | e)
        · exact hsb0 e.symm
        · exact hD0 e
      · rcases e with e | e
        · rw [e]; exact hGs
        · exact hGD j e
    by_cases hc3 : a.comC l r = 3
    · rw [hc3, if_pos rfl]
      rw [hc3] at PA
      have PF : Hid (∀ w1, SD w1 sb (a.drop.ss d (some kb) none) (a.comL l r) (More D Wd w1) → Calls Tryz.prog 36 #[.pointer (some ⟨sb, 0, none⟩), .int .i64 3] w1 fun e w' => e = .returned (.int .i64 3) ∧ w' = w1.setCell ⟨sb, 7, none⟩ (.bool true)) := Lib.hid fun w1 h1 => found_down h1.at_
      have H7 : Hid (∀ w1, SD w1 sb (a.drop.ss d (some kb) none) (a.comL l r) (More D Wd w1) → Pile w1 (some kb) a.kept → Ch (fun k => k = sb ∨ D k) Wd w1 → (w1.setCell ⟨sb, 7, none⟩ (.bool true)).cell? ⟨sb, 5, none⟩ = some (.map (some kb)) ∧ Str (w1.setCell ⟨sb, 7, none⟩ (.bool true)) sb d a.drop.out (a.comL l r) (More G w (w1.setCell ⟨sb, 7, none⟩ (.bool true))) ∧ Ch G w (w1.setCell ⟨sb, 7, none⟩ (.bool true))) := Lib.hid fun w1 hS1 hp1 hc1 => by
        obtain ⟨h1, h2⟩ := HE.out w1 hS1 hp1 hc1
        have hU := h1.upd (a' := a.drop.out) (km' := some kb) (fm' := none) 7 (.bool true) rfl rfl rfl (.inl ⟨rfl, rfl⟩)
        have hz7 : (w1.setCell ⟨sb, 7, none⟩ (.bool true)).heap.size = w1.heap.size := by simp [World.setCell]
        exact ⟨hU.sd.at_.c5, Str.mono (⟨_, _, _, hU⟩ : Str _ sb d a.drop.out (a.comL l r) (More G w w1)) (fun k _ hk => hk.imp id fun e => ⟨e.1, by have := e.2; omega⟩) (More.not hg0 hpos), h2.tr (Ch.setCell _ _ _ fun _ => hGs)⟩
      clear h hdrop hPF hc0 hc3 fk ff hfn hd HE
      generalize a.comL l r = l2 at *
      generalize a.drop.ss d (some kb) none = S0 at *
      generalize a.drop = a2 at *
      generalize txt r = tr at *
      go_enter Tryz.func12, Tryz.ntmps12
      go_wp2_with (go_at_call 24; (with_reducible refine P24.out.mono ?_); rintro e w0 ⟨rfl, hw0⟩; subst w0)
      go_region_held3 (fun V => V.cell? ⟨sb, 5, none⟩ = some (.map (some kb)))
        (first | exact c5 | exact H5.out _ hS1 | exact (H7.out _ hS1 hp1 hc1).1)
        (first
          | (go_at_call 37; (with_reducible refine (PA.out _ ((Below.refl _ _).drew)).mono ?_); rintro e w1 ⟨rfl, hS1, hp1, hq1, hc1⟩)
          | (go_at_call 36; (with_reducible refine (PF.out _ hS1).mono ?_); rintro e w1b ⟨rfl, hw1b⟩; subst w1b))
      go_wp2
      go_ret
      obtain ⟨_, k1, k2⟩ := H7.out _ hS1 hp1 hc1
      exact ⟨rfl, k1, k2⟩
    · rw [if_neg hc3]
      have PF : Hid (∀ w1, Calls Tryz.prog 36 #[.pointer (some ⟨sb, 0, none⟩), .int .i64 (a.comC l r)] w1 fun e w' => e = .returned (.int .i64 (a.comC l r)) ∧ w' = w1) := Lib.hid fun w1 => found_ok sb _ hc3
      clear h hdrop hPF fk ff hfn hd
      generalize a.comL l r = l2 at *
      generalize a.comC l r = cc at *
      generalize a.drop.ss d (some kb) none = S0 at *
      generalize a.drop = a2 at *
      generalize txt r = tr at *
      go_enter Tryz.func12, Tryz.ntmps12
      go_wp2_with (go_at_call 24; (with_reducible refine P24.out.mono ?_); rintro e w0 ⟨rfl, hw0⟩; subst w0)
      go_region_held3 (fun V => V.cell? ⟨sb, 5, none⟩ = some (.map (some kb)))
        (first | exact c5 | exact H5.out _ hS1)
        (first
          | (go_at_call 37; (with_reducible refine (PA.out _ ((Below.refl _ _).drew)).mono ?_); rintro e w1 ⟨rfl, hS1, hp1, hq1, hc1⟩)
          | (go_at_call 36; (with_reducible refine (PF.out _).mono ?_); rintro e w1b ⟨rfl, hw1b⟩; subst w1b))
      go_wp2
      go_ret
      obtain ⟨k1, k2⟩ := HE.out _ hS1 hp1 hc1
      exact ⟨rfl, ⟨_, _, _, k1⟩, k2⟩
set_option maxRecDepth 100000 in
set_option maxHeartbeats 2000000 in
theorem commit_down {w : World} {sb d : Nat} {a : Ab} {l : Lg} {G : Nat → Prop} (h : Str w sb d a l G) (hd : a.down = true) (r : List UInt8) (hr : r.length ≤ 1000) :
    Calls Tryz.prog 12 #[.pointer (some ⟨sb, 0, none⟩), .string (txt r)] w fun e w' => e = .returned (.int .i64 3) ∧ Str w' sb d a.drop l G ∧ Ch G w w' := by
  have P24 := Lib.hid (drop_any h)
  have hsz := txt_size r
  have hr' : (r.length : Int) ≤ 1000 := by omega
  have H7 : Hid (∀ W, Str W sb d a.drop l G → W.cell? ⟨sb, 7, none⟩ = some (.bool true)) := Lib.hid fun W hW => by
    obtain ⟨km, fm, D, hW⟩ := hW
    have := hW.sd.at_.c7
    rw [this]
    show some (Value.bool a.down) = _
    rw [hd]
  obtain ⟨fm, c6⟩ : ∃ fm, w.cell? ⟨sb, 6, none⟩ = some (.map fm) := by
    obtain ⟨km, fm, D, h⟩ := h
    exact ⟨fm, h.sd.at_.c6⟩
  clear h
  generalize txt r = tr at *
  go_enter Tryz.func12, Tryz.ntmps12
  go_wp2_with (go_at_call 24; (with_reducible refine P24.out.mono ?_); rintro e w1 ⟨rfl, hS1, hc1⟩; have c7 := H7.out _ hS1)
  go_ret
  exact ⟨rfl, hS1, hc1⟩
end Go.Proofs.YtogihpofkjpokaaGreatDoor
namespace Go.Proofs.YtogihpofkjpokaaGreatDoor
open Go Go.RowKit Go.Maps
open D4 (put Asc Lg Dk dp More)
open F5 (txt txt_size data_txt RdT)

/-- What is kept of these fingerprints; none, if one of them is of nothing. -/
def restStep (k : Tx) (o : Option Tx) (p : List UInt8) : Option Tx := match o with
  | none => none
  | some m => match D4.look p k with
    | none => none
    | some t => some (put p t m)
def restOf (k : Tx) (ps : List (List UInt8)) : Option Tx := ps.foldl (restStep k) (some [])
theorem rest_none (k : Tx) : ∀ ps : List (List UInt8), ps.foldl (restStep k) none = none
  | [] => rfl
  | _ :: ps => rest_none k ps
theorem rest_take {k : Tx} {ps : List (List UInt8)} {i : Nat} (h : i < ps.length) : restOf k (ps.take (i + 1)) = restStep k (restOf k (ps.take i)) (ps[i]) := by
  unfold restOf
  rw [List.take_succ_eq_append_getElem h, List.foldl_append]
  rfl
/-- What it keeps to. -/
structure RestOK (k m : Tx) (n : Nat) : Prop where
  asc : Asc m
  sub : ∀ p ∈ m, p ∈ k
  len : m.length ≤ n
theorem rest_ok {k : Tx} : ∀ (ps : List (List UInt8)) {m0 m : Tx} {n : Nat}, RestOK k m0 n → ps.foldl (restStep k) (some m0) = some m → RestOK k m (n + ps.length)
  | [], m0, m, n, h, e => by cases e; exact h
  | p :: ps, m0, m, n, h, e => by
    simp only [List.foldl_cons, restStep] at e
    cases hl : D4.look p k with
    | none => rw [hl] at e; simp only at e; rw [rest_none] at e; cases e
    | some t =>
      rw [hl] at e
      have h1 : RestOK k (put p t m0) (n + 1) := ⟨D4.put_asc h.asc, fun q hq => by
        rcases D4.mem_put hq with rfl | hq
        · exact D4.look_mem hl
        · exact h.sub q hq, by have := put_len p t m0; have := h.len; omega⟩
      have := rest_ok ps h1 e
      rw [List.length_cons, show n + (ps.length + 1) = n + 1 + ps.length by omega]
      exact this
theorem restOf_ok {k m : Tx} {ps : List (List UInt8)} (h : restOf k ps = some m) : RestOK k m ps.length := by
  have := rest_ok (k := k) ps (m0 := []) (n := 0) ⟨List.Pairwise.nil, (fun p hp => by cases hp), Nat.le_refl _⟩ h
  rwa [Nat.zero_add] at this
def Ab.colA (a : Ab) (l : Lg) (rest : Tx) : Ab := if a.colC l rest = 0 then a.less rest else if a.colC l rest = 3 then a.out else a
/-- The rounds of Collect. -/
structure QI (w wr : World) (rb : Nat) (k : Tx) (ps : List (List UInt8)) (i : Nat) : Prop where
  pile : ∃ m, restOf k (ps.take i) = some m ∧ Pile wr (some rb) m
  below : Below w.heap.size w wr
  new : w.heap.size ≤ rb
theorem QI.step {w wr W : World} {rb : Nat} {k : Tx} {ps : List (List UInt8)} {i : Nat} (h : QI w wr rb k ps i) (hi : i < ps.length) {t : List UInt8} (hl : D4.look (ps[i]) k = some t) (hW : Below wr.heap.size wr W) (hn : ps.length ≤ 100000) (hp : (ps[i]).length ≤ 100000) :
    ∃ w2, (Instr.mapUpdate 71 (.map (some rb)) (.string (txt (ps[i]))) (.agg #[.string (txt t)])).run Tryz.prog W = .ok () w2 ∧ QI w w2 rb k ps (i + 1) := by
  obtain ⟨m, hm, hP⟩ := h.pile
  have hr := restOf_ok hm
  obtain ⟨w2, hrun, hq, hc⟩ := (hP.new hW).update (txt (ps[i])) (by rw [txt_size]; omega) t (by have := hr.len; rw [List.length_take] at this; omega)
  rw [data_txt] at hq
  have hz := h.below.size
  have hz2 := hW.size
  refine ⟨w2, hrun, ⟨put (ps[i]) t m, ?_, hq⟩, (h.below.trans (hW.mono hz)).trans (hc.below (by omega) fun k hk e => by have := h.new; omega), h.new⟩
  rw [rest_take hi, hm]
  unfold restStep
  rw [hl]
theorem rest_stop {k : Tx} {ps : List (List UInt8)} {i : Nat} (hi : i < ps.length) {m : Tx} (hm : restOf k (ps.take i) = some m) (hl : D4.look (ps[i]) k = none) : restOf k ps = none := by
  have e := rest_take (k := k) hi
  rw [hm] at e
  unfold restStep at e
  rw [hl] at e
  simp only at e
  unfold restOf at e ⊢
  rw [← List.take_append_drop (i + 1) ps, List.foldl_append, e, rest_none]
/-- Behind renew. -/
theorem col_done {w wr w1 : World} {sb d : Nat} {a : Ab} {km fm : Option Nat} {l : Lg} {D G : Nat → Prop} {rb : Nat} {rest : Tx} (h : St w sb d a km fm l D fun k => G k ∧ k < w.heap.size) (hb : Below w.heap.size w wr) (hrb : w.heap.size ≤ rb) (hP : Pile wr (some rb) rest)
    (hS : SD w1 sb (renS l (a.ss d km fm) rest a.root) (a.colL l rest) (More D wr w1)) (hc : Ch (fun k => k = sb ∨ D k) wr w1) (hg0 : ¬ G 0) :
    (a.colC l rest ≠ 0 → St w1 sb d a km fm (a.colL l rest) (More D wr w1) (More G w w1)) ∧
    (a.colC l rest = 0 → St (w1.setCell ⟨sb, 5, none⟩ (.map (some rb))) sb d (a.less rest) (some rb) fm (a.colL l rest) (More D wr w1) (More G w w1)) ∧ Ch G w w1 := by
  have hsw := h.sd.at_.lt
  have hpos := h.kr.pos
  have hz := hb.size
  have hz1 := hc.size
  have hrw := hP.lt rfl
  have hD : ∀ k, D k → G k ∧ k < w.heap.size := fun k hk => h.foot k (.inr (.inr (.inr hk)))
  have hG : G sb := (h.foot sb (.inl rfl)).1
  have hsb0 : sb ≠ 0 := fun e => hg0 (e ▸ hG)
  have hD0 : ¬ D 0 := fun e => hg0 (hD 0 e).1
  have hn := h.keep (Ch.of_new (S := fun _ => False) hb) (fun _ _ => id) id
  have hpk : Pile w1 km a.kept := hn.pk.keep hc (mapOff hn.pk hn.sd.at_ hn.dk)
  have hpf : Pile w1 fm a.fresh := hn.pf.keep hc (mapOff hn.pf hn.sd.at_ hn.df)
  have hpr : Pile w1 (some rb) rest := hP.keep hc fun b e hle => by
    cases e
    rcases hle with e | e
    · omega
    · have := (hD _ e).2; omega
  have hkr : S1.KR w1 := KR_keep hn.kr hc fun e => e.elim (fun e => hsb0 e.symm) hD0
  have hg : ¬ More G w w1 0 := More.not hg0 hpos
  have hC : Ch G w w1 := (Ch.of_new hb).trans hc fun j hj e => e.elim (fun e => e ▸ hG) fun e => (hD j e).1
  have hdk : ∀ b, b < w.heap.size → ¬ D b → ¬ More D wr w1 b := fun b hb hD e => e.elim hD fun e => by omega
  have hfoot : ∀ k, k = sb ∨ km = some k ∨ fm = some k ∨ More D wr w1 k → More G w w1 k := fun k hk => by
    rcases hk with e | e | e | (e | e)
    · exact .inl (h.foot k (.inl e)).1
    · exact .inl (h.foot k (.inr (.inl e))).1
    · exact .inl (h.foot k (.inr (.inr (.inl e)))).1
    · exact .inl (hD k e).1
    · exact .inr ⟨by omega, e.2⟩
  refine ⟨fun hne => ?_, fun he => ?_, hC⟩
  · have e : renS l (a.ss d km fm) rest a.root = a.ss d km fm := by unfold renS; exact if_neg hne
    rw [e] at hS
    exact ⟨hS, hpk, hpf, h.kn, fun b e => hdk b (h.pk.lt e) (h.dk b e), fun b e => hdk b (h.pf.lt e) (h.df b e), h.kf, hfoot, hkr, hg⟩
  · have e : renS l (a.ss d km fm) rest a.root = { (a.ss d km fm) with size := (batchL rest a.root).length, torn := false, live := liveK rest } := by unfold renS; exact if_pos he
    rw [e] at hS
    have hU := hS.upd (s' := (a.less rest).ss d (some rb) fm) 5 (.map (some rb)) rfl rfl
    have hc5 : Ch (fun k => k = sb) w1 (w1.setCell ⟨sb, 5, none⟩ (.map (some rb))) := Ch.setCell _ _ _ fun _ => rfl
    refine ⟨hU, hpr.keep hc5 fun b e => by cases e; omega, hpf.keep hc5 fun b e e2 => ?_, by simp, fun b e => ?_, fun b e => hdk b (h.pf.lt e) (h.df b e), fun b e e2 => ?_, ?_, KR_keep hkr hc5 fun e => hsb0 e.symm, hg⟩
    · obtain ⟨es, c, ho⟩ := h.pf.obj e
      have := h.sd.at_
      unfold SAt at this
      rw [← e2, ho] at this
      cases this
    · cases e
      rintro (e | e)
      · have := (hD _ e).2; omega
      · omega
    · cases e2
      have := h.pf.lt e
      omega
    · rintro k (e | e | e | e)
      · exact hfoot k (.inl e)
      · cases e; exact .inr ⟨hrb, by omega⟩
      · exact hfoot k (.inr (.inr (.inl e)))
      · exact hfoot k (.inr (.inr (.inr e)))
/-- What Collect answers, and what it leaves. -/
def ColPost (w : World) (sb d : Nat) (a : Ab) (l : Lg) (G : Nat → Prop) (ps : List (List UInt8)) (e : Ending) (w' : World) : Prop :=
  (restOf a.kept ps = none → e = .returned (.int .i64 6) ∧ Str w' sb d a l (More G w w')) ∧
  ∀ rest, restOf a.kept ps = some rest → e = .returned (.int .i64 (a.colC l rest)) ∧ Str w' sb d (a.colA l rest) (a.colL l rest) (More G w w')
theorem ColPost.none {w : World} {sb d : Nat} {a : Ab} {l : Lg} {G : Nat → Prop} {ps : List (List UInt8)} {e : Ending} {w' : World} (h : restOf a.kept ps = none) (h1 : e = .returned (.int .i64 6)) (h2 : Str w' sb d a l (More G w w')) : ColPost w sb d a l G ps e w' :=
  ⟨fun _ => ⟨h1, h2⟩, fun rest hr => by rw [h] at hr; cases hr⟩
theorem ColPost.some {w : World} {sb d : Nat} {a : Ab} {l : Lg} {G : Nat → Prop} {ps : List (List UInt8)} {e : Ending} {w' : World} {rest : Tx} (h : restOf a.kept ps = some rest) (h1 : e = .returned (.int .i64 (a.colC l rest))) (h2 : Str w' sb d (a.colA l rest) (a.colL l rest) (More G w w')) : ColPost w sb d a l G ps e w' :=
  ⟨fun hr => (by rw [h] at hr; cases hr), fun rest' hr => by rw [h] at hr; cases hr; exact ⟨h1, h2⟩⟩
set_option maxRecDepth 100000 in
set_option maxHeartbeats 8000000 in
theorem collect_any {w : World} {sb d : Nat} {a : Ab} {l : Lg} {G : Nat → Prop} (h : Str w sb d a l G) (hd : a.down = false) (av : Option Addr) (c : Nat) (ps : List (List UInt8)) (hR : RdT w av ps) (hps : ∀ p ∈ ps, p.length ≤ 1000) (hn : ps.length ≤ 1000) (hkey : KeyOK a.kept) (hr : a.root.length ≤ 1000) (hl : l.fs.length ≤ 1000) :
    Calls Tryz.prog 17 #[.pointer (some ⟨sb, 0, none⟩), .slice av ps.length c] w fun e w' => ColPost w sb d a l G ps e w' ∧ Ch G w w' := by
  have hg0 := h.g0
  have hpos := h.pos
  obtain ⟨km, fm, D, hS⟩ := h.low
  have HS := Lib.hid hS
  have hmm := @run_makeMap Tryz.prog
  have hnn : (ps.length : Int) ≤ 1000 := by omega
  have HR := Lib.hid hR
  have H0 : Hid (QI w (w.alloc (.map #[] 0)) w.heap.size a.kept ps 0) := Lib.hid ⟨⟨[], rfl, Pile.made w⟩, (Below.refl _ _).alloc (Nat.le_refl _) _, Nat.le_refl _⟩
  have HK := Lib.hid (And.intro hkey (And.intro hr (And.intro hl (And.intro hps hn))))
  have HGZ := Lib.hid (And.intro hg0 hpos)
  have HST := Lib.hid h
  clear h hS hR hkey hr hl hps hg0 hpos
  go_enter Tryz.func17, Tryz.ntmps17
  go_wp2
  go_loopw [7, 8, 9, 16] (fun _ _ _ i wr => ∃ ii : Nat, i = .int .i64 (ii : Int) ∧ ii ≤ ps.length ∧ Hid (QI w wr w.heap.size a.kept ps ii)) (fun _ _ _ i _ => ps.length - (intOf i).toNat)
  case atStart => exact ⟨0, rfl, Nat.zero_le _, H0⟩
  case round =>
    obtain ⟨ii, rfl, hi, HI⟩ := hrel
    clear H0
    have hw := HI.out.below
    have hSr := HS.out.keep (Ch.of_new (S := fun _ => False) hw) (fun _ _ => id) id
    by_cases hlt : ii < ps.length
    · have hlt' : (ii : Int) < (ps.length : Int) := by omega
      have hi0 : (0 : Int) ≤ (ii : Int) := by omega
      obtain ⟨b, off, rfl, hc1⟩ := (HR.out.new hw) ii hlt
      rw [F5.getD_at hlt] at hc1
      have c5 : wr.cell? ⟨sb, 5, none⟩ = some (.map km) := hSr.sd.at_.c5
      have hpl := HK.out.2.2.2.1 _ (List.getElem_mem hlt)
      have hL := hSr.pk.look (txt (ps[ii])) (by rw [txt_size]; omega)
      rw [data_txt] at hL
      cases hlk : D4.look (ps[ii]) a.kept with
      | none =>
        rw [hlk] at hL
        obtain ⟨m, hm, -⟩ := HI.out.pile
        have hstop := Lib.hid (rest_stop hlt hm hlk)
        simp only [cvo, cv, Option.isSome_none] at hL
        clear hSr hlk hm hpl
        generalize txt (ps[ii]) = tp at hc1 hL
        generalize txt [] = te at hL
        go_wp2
        go_ret
        have hb2 : Below w.heap.size w (wr.alloc (.cells #[.string te] 79)) := hw.alloc hw.size _
        exact ⟨ColPost.none hstop.out rfl ((HST.out.new hb2).mono (fun k _ hk => .inl hk) (More.not HGZ.out.1 HGZ.out.2)), Ch.of_new hb2⟩
      | some t =>
        rw [hlk] at hL
        simp only [cvo, cv, Option.isSome_some] at hL
        have PU : Hid (∀ W, Below (wr.alloc (.cells #[.string (txt t)] 79)).heap.size (wr.alloc (.cells #[.string (txt t)] 79)) W → W.cell? ⟨wr.heap.size, 0, none⟩ = some (.string (txt t)) ∧ ∃ w2, (Instr.mapUpdate 71 (.map (some w.heap.size)) (.string (txt (ps[ii]))) (.agg #[.string (txt t)])).run Tryz.prog W = .ok () w2 ∧ QI w w2 w.heap.size a.kept ps (ii + 1)) := Lib.hid fun W hW => by
          have hrow : W.heap[wr.heap.size]? = some (.cells #[.string (txt t)] 79 (0, 0)) := (hW.block _ (by simp)).trans (heap_alloc_new _ _)
          exact ⟨cell_of_row _ _ 0 _ _ _ hrow, HI.out.step hlt hlk (((Below.refl _ _).alloc (Nat.le_refl _) _).trans (hW.mono (by simp))) (by omega) (by omega)⟩
        have HC := Lib.hid (sclone_any (ps[ii]) (by omega))
        have k0 : (wr.alloc (.cells #[.string (txt t)] 79)).cell? ⟨wr.heap.size, 0, none⟩ = some (.string (txt t)) := cell_of_row _ _ 0 _ _ _ (heap_alloc_new _ _)
        clear hSr hlk hpl
        generalize txt (ps[ii]) = tp at hc1 hL HC PU
        generalize txt t = tt at hL PU k0
        go_wp2_with fail
        go_region_with (go_at_call 39; (with_reducible refine (HC.out _).mono ?_); rintro e w3 ⟨rfl, hb3⟩; obtain ⟨c0b, w4, hrun, hQ⟩ := PU.out w3 (D4.undrew hb3); clear hb3)
        all_goals clear hrun c0b
        all_goals go_wp2
        all_goals
          go_roundw
          case rel => exact ⟨ii + 1, by go_num, by omega, Lib.hid hQ⟩
          case measure => simp [intOf]; omega
    · have hlt' : (ps.length : Int) ≤ (ii : Int) := by omega
      have e : ii = ps.length := by omega
      subst e
      obtain ⟨rest, hrest, hP⟩ := HI.out.pile
      rw [List.take_length] at hrest
      have HP0 : Hid (∀ e w', e = .returned (.int .i64 (a.colC l rest)) → Str w' sb d (a.colA l rest) (a.colL l rest) (More G w w') → Ch G w w' → ColPost w sb d a l G ps e w' ∧ Ch G w w') := Lib.hid fun e w' h1 h2 h3 => ⟨ColPost.some hrest h1 h2, h3⟩
      have hro := restOf_ok hrest
      have hrk : KeyOK rest := fun p hp => HK.out.1 p (hro.sub p hp)
      have c7 : wr.cell? ⟨sb, 7, none⟩ = some (.bool false) := by rw [← hd]; exact hSr.sd.at_.c7
      have c4 : wr.cell? ⟨sb, 4, none⟩ = some (.string (txt a.root)) := hSr.sd.at_.c4
      have hrn : Fits rest := Fits.of (by have := hro.len; have := HK.out; omega) hrk
      have PA : Hid (∀ W, Below wr.heap.size wr W → Calls Tryz.prog 42 #[.pointer (some ⟨sb, 0, none⟩), .map (some w.heap.size), .string (txt a.root)] W fun e w' => e = .returned (.int .i64 (a.colC l rest)) ∧ SD w' sb (renS l (a.ss d km fm) rest a.root) (a.colL l rest) (More D wr w') ∧ Ch (fun k => k = sb ∨ D k) wr w') := Lib.hid fun W hW => by
        have h1 := hSr.sd.new hW
        refine (renew_any h1 (hP.new hW) hrn a.root HK.out.2.1 HK.out.2.2.1).mono ?_
        rintro e w' ⟨rfl, hS, hc⟩
        exact ⟨rfl, hSr.sd.after hW hS, (Ch.of_new hW).tr hc⟩
      have HD : Hid (∀ w1, SD w1 sb (renS l (a.ss d km fm) rest a.root) (a.colL l rest) (More D wr w1) → Ch (fun k => k = sb ∨ D k) wr w1 → (a.colC l rest ≠ 0 → St w1 sb d a km fm (a.colL l rest) (More D wr w1) (More G w w1)) ∧ (a.colC l rest = 0 → St (w1.setCell ⟨sb, 5, none⟩ (.map (some w.heap.size))) sb d (a.less rest) (some w.heap.size) fm (a.colL l rest) (More D wr w1) (More G w w1)) ∧ Ch G w w1) := Lib.hid fun w1 h1 h2 => col_done HS.out hw (Nat.le_refl _) hP h1 h2 HGZ.out.1
      have H4 : Hid (∀ w1, SD w1 sb (renS l (a.ss d km fm) rest a.root) (a.colL l rest) (More D wr w1) → w1.cell? ⟨sb, 4, none⟩ = some (.string (txt a.root))) := Lib.hid fun w1 h1 => by
        have h4 := h1.at_.c4
        rw [h4]
        unfold renS
        split <;> rfl
      have H5 : Hid (∀ w1, SD w1 sb (renS l (a.ss d km fm) rest a.root) (a.colL l rest) (More D wr w1) → w1.frozen? ⟨sb, 5, none⟩ = false ∧ ∃ v, w1.cell? ⟨sb, 5, none⟩ = some v) := Lib.hid fun w1 h1 => ⟨h1.at_.fr 5, _, h1.at_.c5⟩
      have hGs : G sb := (HS.out.foot sb (.inl rfl)).1
      unfold Ab.colA at HP0
      by_cases hc0 : a.colC l rest = 0
      · rw [hc0, if_pos rfl] at HP0
        rw [hc0] at PA
        have PF := Lib.hid (fun W => found_ok (w := W) sb 0 (by decide))
        have HE : Hid (∀ w1, SD w1 sb (renS l (a.ss d km fm) rest a.root) (a.colL l rest) (More D wr w1) → Ch (fun k => k = sb ∨ D k) wr w1 → Str (w1.setCell ⟨sb, 5, none⟩ (.map (some w.heap.size))) sb d (a.less rest) (a.colL l rest) (More G w (w1.setCell ⟨sb, 5, none⟩ (.map (some w.heap.size)))) ∧ Ch G w (w1.setCell ⟨sb, 5, none⟩ (.map (some w.heap.size)))) := Lib.hid fun w1 h1 h2 => by
          obtain ⟨-, k2, k3⟩ := HD.out w1 h1 h2
          have hz5 : (w1.setCell ⟨sb, 5, none⟩ (.map (some w.heap.size))).heap.size = w1.heap.size := by simp [World.setCell]
          exact ⟨Str.mono (⟨_, _, _, k2 hc0⟩ : Str _ sb d (a.less rest) (a.colL l rest) (More G w w1)) (fun k _ hk => hk.imp id fun e => ⟨e.1, by have := e.2; omega⟩) (More.not HGZ.out.1 HGZ.out.2), k3.tr (Ch.setCell _ _ _ fun _ => hGs)⟩
        clear hSr hP hrest hro hrk hrn HD hc0 hd
        generalize a.colL l rest = l2 at *
        generalize renS l (a.ss d km fm) rest a.root = S0 at *
        generalize a.less rest = a2 at *
        generalize txt a.root = tr at *
        go_wp2_with fail
        go_region_held3 (fun V => V.cell? ⟨sb, 4, none⟩ = some (.string tr))
          (first | exact c4 | exact H4.out _ hS1)
          (first
            | (go_at_call 42; (with_reducible refine (PA.out _ ((Below.refl _ _).drew)).mono ?_); rintro e w1 ⟨rfl, hS1, hc1⟩)
            | (go_at_call 36; (with_reducible refine (PF.out _).mono ?_); rintro e w1b ⟨rfl, hw1b⟩; subst w1b))
        obtain ⟨f5, v5, c5⟩ := H5.out _ hS1
        go_wp2
        go_ret
        obtain ⟨k1, k2⟩ := HE.out _ hS1 hc1
        exact HP0.out _ _ rfl k1 k2
      · rw [if_neg hc0] at HP0
        by_cases hc3 : a.colC l rest = 3
        · rw [hc3, if_pos rfl] at HP0
          rw [hc3] at PA
          have PF : Hid (∀ w1, SD w1 sb (renS l (a.ss d km fm) rest a.root) (a.colL l rest) (More D wr w1) → Calls Tryz.prog 36 #[.pointer (some ⟨sb, 0, none⟩), .int .i64 3] w1 fun e w' => e = .returned (.int .i64 3) ∧ w' = w1.setCell ⟨sb, 7, none⟩ (.bool true)) := Lib.hid fun w1 h1 => found_down h1.at_
          have HE : Hid (∀ w1, SD w1 sb (renS l (a.ss d km fm) rest a.root) (a.colL l rest) (More D wr w1) → Ch (fun k => k = sb ∨ D k) wr w1 → (w1.setCell ⟨sb, 7, none⟩ (.bool true)).cell? ⟨sb, 4, none⟩ = some (.string (txt a.root)) ∧ Str (w1.setCell ⟨sb, 7, none⟩ (.bool true)) sb d a.out (a.colL l rest) (More G w (w1.setCell ⟨sb, 7, none⟩ (.bool true))) ∧ Ch G w (w1.setCell ⟨sb, 7, none⟩ (.bool true))) := Lib.hid fun w1 h1 h2 => by
            obtain ⟨k1, -, k3⟩ := HD.out w1 h1 h2
            have hU := (k1 (by rw [hc3]; decide)).upd (a' := a.out) (km' := km) (fm' := fm) 7 (.bool true) rfl rfl rfl (.inl ⟨rfl, rfl⟩)
            have hz7 : (w1.setCell ⟨sb, 7, none⟩ (.bool true)).heap.size = w1.heap.size := by simp [World.setCell]
            exact ⟨hU.sd.at_.c4, Str.mono (⟨_, _, _, hU⟩ : Str _ sb d a.out (a.colL l rest) (More G w w1)) (fun k _ hk => hk.imp id fun e => ⟨e.1, by have := e.2; omega⟩) (More.not HGZ.out.1 HGZ.out.2), k3.tr (Ch.setCell _ _ _ fun _ => hGs)⟩
          clear hSr hP hrest hro hrk hrn HD hc0 hc3 hd
          generalize a.colL l rest = l2 at *
          generalize renS l (a.ss d km fm) rest a.root = S0 at *
          generalize a.out = a2 at *
          generalize txt a.root = tr at *
          go_wp2_with fail
          go_region_held3 (fun V => V.cell? ⟨sb, 4, none⟩ = some (.string tr))
            (first | exact c4 | exact H4.out _ hS1 | exact (HE.out _ hS1 hc1).1)
            (first
              | (go_at_call 42; (with_reducible refine (PA.out _ ((Below.refl _ _).drew)).mono ?_); rintro e w1 ⟨rfl, hS1, hc1⟩)
              | (go_at_call 36; (with_reducible refine (PF.out _ hS1).mono ?_); rintro e w1b ⟨rfl, hw1b⟩; subst w1b))
          go_wp2
          go_ret
          obtain ⟨_, k1, k2⟩ := HE.out _ hS1 hc1
          exact HP0.out _ _ rfl k1 k2
        · rw [if_neg hc3] at HP0
          have PF : Hid (∀ w1, Calls Tryz.prog 36 #[.pointer (some ⟨sb, 0, none⟩), .int .i64 (a.colC l rest)] w1 fun e w' => e = .returned (.int .i64 (a.colC l rest)) ∧ w' = w1) := Lib.hid fun w1 => found_ok sb _ hc3
          have HE : Hid (∀ w1, SD w1 sb (renS l (a.ss d km fm) rest a.root) (a.colL l rest) (More D wr w1) → Ch (fun k => k = sb ∨ D k) wr w1 → Str w1 sb d a (a.colL l rest) (More G w w1) ∧ Ch G w w1) := Lib.hid fun w1 h1 h2 => by
            obtain ⟨k1, -, k3⟩ := HD.out w1 h1 h2
            exact ⟨⟨_, _, _, k1 hc0⟩, k3⟩
          clear hSr hP hrest hro hrk hrn HD hd
          generalize a.colL l rest = l2 at *
          generalize a.colC l rest = cc at *
          generalize renS l (a.ss d km fm) rest a.root = S0 at *
          generalize txt a.root = tr at *
          go_wp2_with fail
          go_region_held3 (fun V => V.cell? ⟨sb, 4, none⟩ = some (.string tr))
            (first | exact c4 | exact H4.out _ hS1)
            (first
              | (go_at_call 42; (with_reducible refine (PA.out _ ((Below.refl _ _).drew)).mono ?_); rintro e w1 ⟨rfl, hS1, hc1⟩)
              | (go_at_call 36; (with_reducible refine (PF.out _).mono ?_); rintro e w1b ⟨rfl, hw1b⟩; subst w1b))
          go_wp2
          go_ret
          obtain ⟨k1, k2⟩ := HE.out _ hS1 hc1
          exact HP0.out _ _ rfl k1 k2
end Go.Proofs.YtogihpofkjpokaaGreatDoor
namespace Go.Proofs.YtogihpofkjpokaaGreatDoor
open Go Go.RowKit Go.Maps
open D4 (put Asc Lg Dk dp More)
open F5 (txt txt_size data_txt RdT OwT)

/-! a disk without a limit of steps -/
theorem free_go {l : Lg} (h : l.lim = false) : l.go = true ∧ l.step = l := by
  unfold Lg.go Lg.step; rw [h]; exact ⟨rfl, rfl⟩
theorem free_app {l : Lg} (n s : List UInt8) (h : l.lim = false) (hd : l.down = false) : l.appC n s ≠ 3 ∧ (l.app n s).lim = false ∧ (l.app n s).down = false := by
  unfold Lg.appC Lg.app
  rw [(free_go h).1, (free_go h).2, hd]
  simp only [Bool.false_eq_true, if_false, if_true]
  split
  · split
    · exact ⟨by decide, h, hd⟩
    · exact ⟨by decide, h, hd⟩
  · exact ⟨by decide, h, hd⟩
theorem free_find {l : Lg} (n : List UInt8) (hd : l.down = false) : l.findC n ≠ 3 := by
  unfold Lg.findC
  rw [hd]
  simp only [Bool.false_eq_true, if_false]
  split
  · split <;> decide
  · decide
theorem free_sync {l : Lg} (n : List UInt8) (h : l.lim = false) (hd : l.down = false) : l.syncC n ≠ 3 ∧ (l.sync n).lim = false ∧ (l.sync n).down = false := by
  have hf := free_find n hd
  unfold Lg.syncC Lg.sync
  rw [(free_go h).1, (free_go h).2]
  simp only [if_true]
  split
  · exact ⟨by decide, h, hd⟩
  · exact ⟨hf, h, hd⟩
theorem free_dele {l : Lg} (n : List UInt8) (h : l.lim = false) (hd : l.down = false) : (l.dele n).lim = false ∧ (l.dele n).down = false := by
  unfold Lg.dele
  rw [(free_go h).1, (free_go h).2]
  simp only [if_true]
  split
  · exact ⟨h, hd⟩
  · exact ⟨h, hd⟩
theorem free_ren {l : Lg} (n m : List UInt8) (h : l.lim = false) (hd : l.down = false) : l.renC n m ≠ 3 ∧ (l.ren n m).lim = false := by
  have hs := (free_sync n h hd).1
  unfold Lg.renC Lg.ren
  rw [(free_go h).1, (free_go h).2, hd]
  simp only [Bool.false_eq_true, if_false, if_true]
  split
  · refine ⟨hs, ?_⟩
    split <;> exact h
  · exact ⟨by decide, h⟩
theorem free_ext {l : Lg} (fs : List UInt8) (h : l.lim = false) (hd : l.down = false) : extC l fs ≠ 3 ∧ (extL l fs).lim = false := by
  obtain ⟨h1, h2, h3⟩ := free_app logN fs h hd
  unfold extC extL
  split
  · exact ⟨(free_sync logN h2 h3).1, (free_sync logN h2 h3).2.1⟩
  · exact ⟨h1, h2⟩
theorem free_rep {l : Lg} (fs : List UInt8) (h : l.lim = false) (hd : l.down = false) : repC l fs ≠ 3 ∧ (repL l fs).lim = false := by
  obtain ⟨h1, h2⟩ := free_dele spN h hd
  obtain ⟨h3, h4, h5⟩ := free_app spN fs h1 h2
  obtain ⟨h6, h7, h8⟩ := free_sync spN h4 h5
  obtain ⟨h9, h10⟩ := free_ren spN logN h7 h8
  unfold repC repL
  split
  · split
    · split
      · exact ⟨h9, h10⟩
      · exact ⟨h6, h7⟩
    · exact ⟨h3, h4⟩
  · exact ⟨(free_sync spN h hd).1, h1⟩
theorem Up.down {l : Lg} {a : Ab} {B N : Nat} (h : Up l a B N) : l.down = false ∧ a.down = false ∧ l.fs.length ≤ 2 := by
  obtain ⟨lg, sp, h⟩ := h
  exact ⟨h.down, h.ad, h.dk.len⟩
theorem Up.fits {l : Lg} {a : Ab} {B N : Nat} (h : Up l a B N) (hN : N ≤ 1000) (hB : B ≤ 1000000) : Fits a.kept ∧ Fits a.fresh ∧ a.size ≤ 10000000 ∧ a.live ≤ 10000000 ∧ KeyOK a.kept ∧ a.root.length ≤ 1000 ∧ a.kept.length ≤ N ∧ a.fresh.length ≤ N := by
  obtain ⟨lg, sp, h⟩ := h
  obtain ⟨h1, h2, h3, h4⟩ := h.rq
  have hc := h.cnt
  have hl := h.live
  have hz := h.size
  have hb := h.bl
  exact ⟨Fits.of (by omega) h2, Fits.of (by omega) h.key, by omega, by omega, h2, h4, by omega, by omega⟩
/-- A Commit on such a disk. -/
theorem Up.commit_free {l : Lg} {a : Ab} {B N : Nat} (h : Up l a B N) (hf : l.lim = false) (r : List UInt8) (hr : r.length ≤ 1000) : (a.comL l r).room = l.room ∧ (a.comL l r).lim = false ∧
    ((a.comC l r = 0 ∧ a.comA l r = a.done r ∧ Up (a.comL l r) (a.done r) (B + (13 + r.length)) N) ∨ (a.comC l r = 2 ∧ a.comA l r = a.drop ∧ Up (a.comL l r) a.drop (B + (13 + r.length)) N ∧ l.room < 3 * (B + (13 + r.length) : Nat) + 1000)) := by
  have hd := h.down.1
  have h3 : a.comC l r ≠ 3 ∧ (a.comL l r).lim = false := by
    unfold Ab.comC Ab.comL
    split
    · exact free_rep _ hf hd
    · exact free_ext _ hf hd
  obtain ⟨h1, ⟨e, h2⟩ | ⟨e, h2⟩ | ⟨e, h2, h4⟩⟩ := h.commit r hr
  · exact ⟨h1, h3.2, .inl ⟨e, by unfold Ab.comA; rw [if_pos e], h2⟩⟩
  · exact absurd e h3.1
  · exact ⟨h1, h3.2, .inr ⟨e, by unfold Ab.comA; rw [if_neg (by rw [e]; decide), if_neg (by rw [e]; decide)], h2, h4⟩⟩
theorem Up.collect_free {l : Lg} {a : Ab} {B N : Nat} (h : Up l a B N) (hf : l.lim = false) {rest : Tx} (ha : Asc rest) (hs : ∀ p ∈ rest, p ∈ a.kept) : (a.colL l rest).room = l.room ∧ (a.colL l rest).lim = false ∧
    ((a.colC l rest = 0 ∧ Up (a.colL l rest) (a.less rest) B N) ∨ (a.colC l rest = 2 ∧ Up (a.colL l rest) a B N)) := by
  have hd := h.down.1
  have h3 : a.colC l rest ≠ 3 ∧ (a.colL l rest).lim = false := free_rep _ hf hd
  obtain ⟨h1, ⟨e, h2⟩ | ⟨e, h2⟩ | ⟨e, h2, h4⟩⟩ := h.collect ha hs
  · exact ⟨h1, h3.2, .inl ⟨e, h2⟩⟩
  · exact absurd e h3.1
  · exact ⟨h1, h3.2, .inr ⟨e, h2⟩⟩
/-- The disk of a store. -/
theorem Str.dk {w : World} {sb d : Nat} {a : Ab} {l : Lg} {G : Nat → Prop} (h : Str w sb d a l G) : Dk w d l fun k => G k ∧ k < w.heap.size := by
  obtain ⟨km, fm, D, h⟩ := h.low
  exact h.sd.dk.mono fun k _ hk => h.foot k (.inr (.inr (.inr hk)))
/-- Open, of a disk that is as told. -/
theorem openL {w : World} {d : Nat} {l : Lg} {G : Nat → Prop} {lg sp : Option (List UInt8 × Nat)} {root : List UInt8} {kept : Tx} {r B N : Nat} {t : Bool} (hD : Dk w d l G) (hU : UpS l lg sp (opened lg r t root kept) B N) (hL : LogAt (dat lg) root kept r t) (hB : B ≤ 40000) (hK : S1.KR w) (h0 : ¬ G 0) :
    Calls Tryz.prog 10 #[.pointer (some ⟨d, 0, none⟩)] w fun e w' => ∃ sb, e = .returned (.tuple #[.pointer (some ⟨sb, 0, none⟩), .int .i64 0]) ∧ Str w' sb d (opened lg r t root kept) l (More G w w') ∧ Below w.heap.size w w' := by
  have hb := hU.bl
  have hs := hU.bs
  refine (open_any (G := fun k => G k ∧ k < w.heap.size) (hD.mono fun k hk hG => ⟨hG, hk⟩) hU.down hU.dk hL hU.pre (by omega) (by omega) hK (fun k hk => hk.2) (fun e => h0 e.1)).mono ?_
  rintro e w' ⟨sb, rfl, _, hS, hb⟩
  exact ⟨sb, rfl, hS.mono (fun k _ hk => hk.imp (·.1) id) (More.not h0 hK.pos), hb⟩
/-! the calls, of a store within blocks that all new ones are among -/
section
variable {w : World} {sb d : Nat} {a : Ab} {l : Lg} {G : Nat → Prop}
theorem Str.cl {w' : World} (h : Str w' sb d a l (More G w w')) (hcl : ∀ k, w.heap.size ≤ k → G k) (h0 : ¬ G 0) : Str w' sb d a l G := h.mono (fun k _ hk => hk.elim id fun e => hcl k e.1) h0
theorem putC (h : Str w sb d a l G) (hcl : ∀ k, w.heap.size ≤ k → G k) {B N : Nat} (hU : Up l a B N) (hN : N ≤ 1000) (t : List UInt8) (ht : t.length ≤ 1000) :
    Calls Tryz.prog 11 #[.pointer (some ⟨sb, 0, none⟩), .string (txt t)] w fun e w' => e = .returned (.tuple #[.string (txt (sha t)), .int .i64 0]) ∧ Str w' sb d (a.putF t) l G ∧ Ch G w w' := by
  obtain ⟨lg, sp, hU⟩ := hU
  refine (put_any h hU.ad t ht (by have := hU.cnt; omega)).mono ?_
  rintro e w' ⟨rfl, hS, hc⟩
  exact ⟨rfl, hS.cl hcl h.g0, hc⟩
theorem commitC (h : Str w sb d a l G) (hcl : ∀ k, w.heap.size ≤ k → G k) {B N : Nat} (hU : Up l a B N) (hN : N ≤ 1000) (hB : B ≤ 1000000) (r : List UInt8) (hr : r.length ≤ 1000) :
    Calls Tryz.prog 12 #[.pointer (some ⟨sb, 0, none⟩), .string (txt r)] w fun e w' => e = .returned (.int .i64 (a.comC l r)) ∧ Str w' sb d (a.comA l r) (a.comL l r) G ∧ Ch G w w' := by
  obtain ⟨h1, h2, h3, h4, _⟩ := hU.fits hN hB
  obtain ⟨_, hd, hl⟩ := hU.down
  refine (commit_any h hd r hr h1 h2 (by omega) h3 h4).mono ?_
  rintro e w' ⟨rfl, hS, hc⟩
  exact ⟨rfl, hS.cl hcl h.g0, hc⟩
theorem openC {lg sp : Option (List UInt8 × Nat)} {root : List UInt8} {kept : Tx} {r B N : Nat} {t : Bool} (hD : Dk w d l G) (hcl : ∀ k, w.heap.size ≤ k → G k) (hU : UpS l lg sp (opened lg r t root kept) B N) (hL : LogAt (dat lg) root kept r t) (hB : B ≤ 40000) (hK : S1.KR w) (h0 : ¬ G 0) :
    Calls Tryz.prog 10 #[.pointer (some ⟨d, 0, none⟩)] w fun e w' => ∃ sb, e = .returned (.tuple #[.pointer (some ⟨sb, 0, none⟩), .int .i64 0]) ∧ Str w' sb d (opened lg r t root kept) l G ∧ Below w.heap.size w w' := by
  refine (openL hD hU hL hB hK h0).mono ?_
  rintro e w' ⟨sb, rfl, hS, hb⟩
  exact ⟨sb, rfl, hS.cl hcl h0, hb⟩
/-- A fall, by a slice outside. -/
theorem fallC (h : Str w sb d a l G) (hl : l.fs.length ≤ 2) (ka : Option Addr) (kc : Nat) (keep : List Int) (hR : D4.RdI w ka keep) (hK : ∀ ad, ka = some ad → keep ≠ [] → ¬ (G ad.block ∧ ad.block < w.heap.size)) :
    Calls Tryz.prog 15 #[.pointer (some ⟨d, 0, none⟩), .slice ka keep.length kc] w fun e w' => e = .returned (.tuple #[]) ∧ Dk w' d (l.fall keep) G ∧ S1.KR w' ∧ Ch G w w' := by
  have hk := h.kr
  have h0 := h.g0
  refine (D4.fall_any h.dk (by omega) ka kc keep hR hK).mono ?_
  rintro e w' ⟨rfl, hD, hc⟩
  exact ⟨rfl, hD.mono fun k _ e => e.1, KR_keep hk hc fun e => h0 e.1, hc.mono fun _ _ e => e.1⟩
end
end Go.Proofs.YtogihpofkjpokaaGreatDoor
namespace Go.Proofs.YtogihpofkjpokaaGreatDoor
open Go Go.RowKit Go.Maps
open D4 (put Asc Lg Dk dp More)
open F5 (txt txt_size data_txt RdT OwT)

def abc : List UInt8 := [97, 98, 99]
def rr : List UInt8 := [114]
theorem opened_of {lg : Option (List UInt8 × Nat)} {r : Nat} {t : Bool} {root : List UInt8} {k : Tx} : (opened lg r t root k).kept = k ∧ (opened lg r t root k).root = root ∧ (opened lg r t root k).down = false ∧ (opened lg r t root k).fresh = [] := ⟨rfl, rfl, rfl, rfl⟩
set_option maxRecDepth 100000 in
set_option maxHeartbeats 4000000 in
theorem awake_any {w : World} (hK : S1.KR w) : Calls Tryz.prog 6 #[] w fun e w' => e = .returned (.bool true) ∧ Below w.heap.size w w' := by
  have hpos := hK.pos
  have P9 : Hid (Calls Tryz.prog 9 #[.int .i64 10000] w fun e w' => e = .returned (.tuple #[.pointer (some ⟨w.heap.size, 0, none⟩), .int .i64 0]) ∧ Dk w' w.heap.size ⟨10000, false, false, 0, []⟩ (fun k => w.heap.size ≤ k) ∧ Below w.heap.size w w' ∧ w'.heap.size = w.heap.size + 1) := Lib.hid (D4.new_up w 10000 (by decide) (by decide))
  -- the first store
  have hU0 := up_new 10000
  have hUp0 : Up ⟨10000, false, false, 0, []⟩ (opened none 0 false [] []) 13 0 := ⟨none, none, hU0⟩
  have hUp1 := hUp0.put abc (by decide)
  have hA1 : (opened none 0 false [] []).putF abc = { (opened none 0 false [] []) with fresh := put (sha abc) abc [] } := rfl
  rw [hA1] at hUp1
  obtain ⟨hroom, hlim, ⟨hc, hca, hUp2⟩ | ⟨hc, _, _, hr⟩⟩ := hUp1.commit_free rfl rr (by decide)
  · have hkept : Ab.kept (Ab.done { (opened none 0 false [] []) with fresh := put (sha abc) abc [] } rr) = [(sha abc, abc)] := by unfold Ab.done; split <;> rfl
    have hroot : Ab.root (Ab.done { (opened none 0 false [] []) with fresh := put (sha abc) abc [] } rr) = rr := by unfold Ab.done; split <;> rfl
    obtain ⟨lg, sp, r, t, hL, hU3⟩ := hUp2.reopen []
    rw [hkept, hroot] at hL hU3
    have hU2 := hUp2
    have HL := Lib.hid (And.intro hL hU3)
    obtain ⟨A1, hA1e⟩ : ∃ A : Ab, A = { (opened none 0 false [] []) with fresh := put (sha abc) abc [] } := ⟨_, rfl⟩
    rw [← hA1e] at hc hca hU2 hlim hroom
    have P10 : Hid (∀ W, Dk W w.heap.size ⟨10000, false, false, 0, []⟩ (fun k => w.heap.size ≤ k) → Below w.heap.size w W → Calls Tryz.prog 10 #[.pointer (some ⟨w.heap.size, 0, none⟩)] W fun e w' => ∃ sb, e = .returned (.tuple #[.pointer (some ⟨sb, 0, none⟩), .int .i64 0]) ∧ Str w' sb w.heap.size (opened none 0 false [] []) ⟨10000, false, false, 0, []⟩ (fun k => w.heap.size ≤ k) ∧ Below W.heap.size W w') := Lib.hid fun W hD hb => openC hD (fun k hk => Nat.le_trans hb.size hk) hU0 LogAt.nil (by decide) (hK.step hb) (by omega)
    have P11 : Hid (∀ W sb, Str W sb w.heap.size (opened none 0 false [] []) ⟨10000, false, false, 0, []⟩ (fun k => w.heap.size ≤ k) → w.heap.size ≤ W.heap.size → Calls Tryz.prog 11 #[.pointer (some ⟨sb, 0, none⟩), .string ⟨#[97, 98, 99]⟩] W fun e w' => e = .returned (.tuple #[.string (txt (sha abc)), .int .i64 0]) ∧ Str w' sb w.heap.size A1 ⟨10000, false, false, 0, []⟩ (fun k => w.heap.size ≤ k) ∧ Ch (fun k => w.heap.size ≤ k) W w') := Lib.hid fun W sb hS hz => by
      rw [hA1e, ← hA1]
      exact putC hS (fun k hk => Nat.le_trans hz hk) hUp0 (by decide) abc (by decide)
    have P12 : Hid (∀ W sb, Str W sb w.heap.size A1 ⟨10000, false, false, 0, []⟩ (fun k => w.heap.size ≤ k) → w.heap.size ≤ W.heap.size → Calls Tryz.prog 12 #[.pointer (some ⟨sb, 0, none⟩), .string ⟨#[114]⟩] W fun e w' => e = .returned (.int .i64 0) ∧ Str w' sb w.heap.size (A1.done rr) (A1.comL ⟨10000, false, false, 0, []⟩ rr) (fun k => w.heap.size ≤ k) ∧ Ch (fun k => w.heap.size ≤ k) W w') := Lib.hid fun W sb hS hz => by
      have := commitC hS (fun k hk => Nat.le_trans hz hk) (hA1e ▸ hUp1) (by decide) (by decide) rr (by decide)
      rw [hc, hca] at this
      exact this
    have P15 : Hid (∀ W sb, Str W sb w.heap.size (A1.done rr) (A1.comL ⟨10000, false, false, 0, []⟩ rr) (fun k => w.heap.size ≤ k) → Calls Tryz.prog 15 #[.pointer (some ⟨w.heap.size, 0, none⟩), .slice none 0 0] W fun e w' => e = .returned (.tuple #[]) ∧ Dk w' w.heap.size ((A1.comL ⟨10000, false, false, 0, []⟩ rr).fall []) (fun k => w.heap.size ≤ k) ∧ S1.KR w' ∧ Ch (fun k => w.heap.size ≤ k) W w') := Lib.hid fun W sb hS => fallC hS (hA1e ▸ hUp2).down.2.2 none 0 [] (fun i hi => absurd hi (by simp)) (fun ad e => by cases e)
    have P10b : Hid (∀ W, Dk W w.heap.size ((A1.comL ⟨10000, false, false, 0, []⟩ rr).fall []) (fun k => w.heap.size ≤ k) → w.heap.size ≤ W.heap.size → S1.KR W → Calls Tryz.prog 10 #[.pointer (some ⟨w.heap.size, 0, none⟩)] W fun e w' => ∃ sb, e = .returned (.tuple #[.pointer (some ⟨sb, 0, none⟩), .int .i64 0]) ∧ Str w' sb w.heap.size (opened lg r t rr [(sha abc, abc)]) ((A1.comL ⟨10000, false, false, 0, []⟩ rr).fall []) (fun k => w.heap.size ≤ k) ∧ Below W.heap.size W w') := Lib.hid fun W hD hz hk => openC hD (fun k hk => Nat.le_trans hz hk) (hA1e ▸ HL.out.2) HL.out.1 (by decide) hk (by omega)
    have P18 : Hid (∀ W sb l, Str W sb w.heap.size (opened lg r t rr [(sha abc, abc)]) l (fun k => w.heap.size ≤ k) → Calls Tryz.prog 18 #[.pointer (some ⟨sb, 0, none⟩), .string (txt (sha abc))] W fun e w' => e = .returned (.tuple #[.string ⟨#[97, 98, 99]⟩, .bool true]) ∧ Below W.heap.size W w') := Lib.hid fun W sb l hS => by
      have e : (opened lg r t rr [(sha abc, abc)]).get (sha abc) = some abc := by
        unfold Ab.get
        rw [show (opened lg r t rr [(sha abc, abc)]).kept = [(sha abc, abc)] from rfl]
        simp [D4.look]
      have := sget_any hS (sha abc) (by rw [sha_len]; decide)
      rw [e] at this
      exact this
    have P14 : Hid (∀ W sb l, Str W sb w.heap.size (opened lg r t rr [(sha abc, abc)]) l (fun k => w.heap.size ≤ k) → Calls Tryz.prog 14 #[.pointer (some ⟨sb, 0, none⟩)] W fun e w' => e = .returned (.string ⟨#[114]⟩) ∧ w' = W) := Lib.hid fun W sb l hS => sroot_any hS
    have P13 : Hid (∀ W sb l, Str W sb w.heap.size (opened lg r t rr [(sha abc, abc)]) l (fun k => w.heap.size ≤ k) → Calls Tryz.prog 13 #[.pointer (some ⟨sb, 0, none⟩)] W fun e w' => ∃ a c, e = .returned (.slice a 1 c) ∧ Below W.heap.size W w') := Lib.hid fun W sb l hS => by
      refine (sprints_any hS (by show 1 ≤ 1000000; decide)).mono ?_
      rintro e w' ⟨v, rfl, ho, hb⟩
      obtain ⟨a, c, hv⟩ := ho.form
      exact ⟨a, c, by rw [hv]; rfl, hb⟩
    clear hL hU3 hkept hroot hUp0 hUp1 hUp2 hU2 hc hca hlim hroom hA1 hA1e HL hU0
    generalize (A1.comL ⟨10000, false, false, 0, []⟩ rr).fall [] = l3 at *
    generalize A1.comL ⟨10000, false, false, 0, []⟩ rr = l2 at *
    generalize A1.done rr = A2 at *
    generalize opened lg r t rr [(sha abc, abc)] = A3 at *
    generalize opened none 0 false [] [] = A0 at *
    generalize txt (sha abc) = ts at *
    go_enter Tryz.func6, Tryz.ntmps6
    go_wp2_with (go_at_call 9; (with_reducible refine P9.out.mono ?_); rintro e w1 ⟨rfl, hD1, hb1, hz1⟩)
    go_wp2_with (go_at_call 10; (with_reducible refine (P10.out _ hD1 hb1).mono ?_); rintro e w2 ⟨sb, rfl, hS2, hb2⟩; have hB2 := hb1.trans (hb2.mono hb1.size))
    go_wp2_with (go_at_call 11; (with_reducible refine (P11.out _ _ hS2 hB2.size).mono ?_); rintro e w3 ⟨rfl, hS3, hc3⟩; have hB3 := hB2.trans (hc3.below hB2.size fun k hk e => by omega))
    go_wp2_with (go_at_call 12; (with_reducible refine (P12.out _ _ hS3 hB3.size).mono ?_); rintro e w4 ⟨rfl, hS4, hc4⟩; have hB4 := hB3.trans (hc4.below hB3.size fun k hk e => by omega))
    go_wp2_with (go_at_call 15; (with_reducible refine (P15.out _ _ hS4).mono ?_); rintro e w5 ⟨rfl, hD5, hk5, hc5⟩; have hB5 := hB4.trans (hc5.below hB4.size fun k hk e => by omega))
    go_wp2_with (go_at_call 10; (with_reducible refine (P10b.out _ hD5 hB5.size hk5).mono ?_); rintro e w6 ⟨sb2, rfl, hS6, hb6⟩; have hB6 := hB5.trans (hb6.mono hB5.size))
    go_wp2_with (go_at_call 18; (with_reducible refine (P18.out _ _ _ hS6).mono ?_); rintro e w7 ⟨rfl, hb7⟩; have hB7 := hB6.trans (hb7.mono hB6.size); have hS7 := hS6.new hb7)
    go_wp2_with (first
      | (go_at_call 14; (with_reducible refine (P14.out _ _ _ hS7).mono ?_); rintro e w8 ⟨rfl, hw8⟩; subst w8)
      | (go_at_call 13; (with_reducible refine (P13.out _ _ _ hS7).mono ?_); rintro e w9 ⟨pa, pc, rfl, hb9⟩))
    go_ret
    exact ⟨rfl, hB7.trans (hb9.mono hB7.size)⟩
  · exfalso
    have e : (10000 : Int) < 3 * ((13 + (13 + abc.length) + (13 + rr.length) : Nat) : Int) + 1000 := hr
    revert e
    decide
end Go.Proofs.YtogihpofkjpokaaGreatDoor
namespace Go.Proofs.YtogihpofkjpokaaGreatDoor
open Go Go.RowKit Go.Maps
open D4 (put Asc Lg Dk dp More)
open F5 (txt txt_size data_txt RdT OwT)
section
variable {w : World} {sb d : Nat} {a : Ab} {l : Lg} {G : Nat → Prop}
theorem roomC (h : Str w sb d a l G) (n : Int) (hn : -9223372036854775808 ≤ n ∧ n ≤ 9223372036854775807) :
    Calls Tryz.prog 16 #[.pointer (some ⟨d, 0, none⟩), .int .i64 n] w fun e w' => e = .returned (.tuple #[]) ∧ Str w' sb d a { l with room := min (max n 0) 1073741824 } (More G w w') ∧ Ch G w w' := by
  obtain ⟨km, fm, D, h⟩ := h
  obtain ⟨s, hA, hl, hF⟩ := h.sd.dk
  subst hl
  have hdD : D d := hF d (.inl rfl)
  refine (D4.room_any hA n hn).mono ?_
  rintro e w' ⟨rfl, hA', hc⟩
  have hc' : Ch D w w' := hc.mono fun k _ e => e ▸ hdD
  refine ⟨rfl, ⟨km, fm, _, h.disk (D' := D) (l' := { s.lg with room := min (max n 0) 1073741824 }) ⟨_, hA', rfl, fun k hk => .inl (hF k (D4.Foot.head (s := s) rfl rfl hk))⟩ (fun _ => id) hc'⟩, hc'.mono fun k _ hk => h.foot k (.inr (.inr (.inr hk)))⟩
theorem printsC (h : Str w sb d a l G) (hl : a.kept.length ≤ 1000) :
    Calls Tryz.prog 13 #[.pointer (some ⟨sb, 0, none⟩)] w fun e w' => ∃ v c, e = .returned (.slice v a.kept.length c) ∧ RdT w' v (a.kept.map (·.1)) ∧ Below w.heap.size w w' := by
  refine (sprints_any h (by omega)).mono ?_
  rintro e w' ⟨v, rfl, ho, hb⟩
  obtain ⟨x, c, hv, hr, _⟩ := ho.rd
  rw [List.length_map] at hv
  exact ⟨x, c, by rw [hv], hr, hb⟩
end
end Go.Proofs.YtogihpofkjpokaaGreatDoor
