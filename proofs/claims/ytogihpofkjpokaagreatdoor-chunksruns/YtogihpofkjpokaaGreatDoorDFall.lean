/- The walk of Fall. -/
import Derived.Test.YtogihpofkjpokaaGreatDoorDNamed
namespace Go.Proofs.YtogihpofkjpokaaGreatDoor.D4
open Go Go.RowKit Go.Maps

theorem put_at {α : Type} {n : List UInt8} {a : α} : ∀ {l : List (List UInt8 × α)} {i : Nat} (hi : i < l.length), Asc l → (l[i]).1 = n → put n a l = l.set i (n, a)
  | p :: r, 0, _, _, e => by
    have e : p.1 = n := e
    simp [put, e]
  | p :: r, i + 1, hi, ha, e => by
    have hi' : i < r.length := by simpa using hi
    have e : (r[i]).1 = n := e
    have hb := ha.head _ (List.getElem_mem hi')
    rw [e] at hb
    rw [put, if_neg (before_ne hb), if_neg (by rw [before_asymm hb]; simp), put_at hi' ha.tail e]
    rfl
/-- A file behind a fall that keeps n of its pending bytes. -/
def fallP (n : Int) (p : List UInt8 × Nat) : List UInt8 × Nat := (p.1.take (kept p.1.length p.2 n), kept p.1.length p.2 n)
/-- The first i files fallen. -/
def fallN (keep : List Int) (i : Nat) (l : List (List UInt8 × (List UInt8 × Nat))) : List (List UInt8 × (List UInt8 × Nat)) := l.mapIdx fun j p => if j < i then (p.1, fallP (keep.getD j 0) p.2) else p
theorem fallN_zero (keep : List Int) (l : List (List UInt8 × (List UInt8 × Nat))) : fallN keep 0 l = l := by
  unfold fallN
  refine List.ext_getElem (by simp) fun j h1 h2 => ?_
  simp
theorem fallN_length (keep : List Int) (i : Nat) (l : List (List UInt8 × (List UInt8 × Nat))) : (fallN keep i l).length = l.length := by simp [fallN]
theorem fallN_get (keep : List Int) (i : Nat) (l : List (List UInt8 × (List UInt8 × Nat))) (j : Nat) (h : j < (fallN keep i l).length) (h' : j < l.length) : (fallN keep i l)[j] = if j < i then ((l[j]).1, fallP (keep.getD j 0) (l[j]).2) else l[j] := by
  simp [fallN]
theorem fallN_succ (keep : List Int) (i : Nat) (l : List (List UInt8 × (List UInt8 × Nat))) (hi : i < l.length) : (fallN keep i l).set i ((l[i]).1, fallP (keep.getD i 0) (l[i]).2) = fallN keep (i + 1) l := by
  refine List.ext_getElem (by simp [fallN]) fun j h1 h2 => ?_
  have hj : j < l.length := by simpa [fallN] using h2
  rw [List.getElem_set, fallN_get _ _ _ _ h2 hj, fallN_get _ _ _ _ (by simpa [fallN] using hj) hj]
  by_cases e : i = j
  · subst e; simp
  · rw [if_neg e]
    by_cases h : j < i
    · rw [if_pos h, if_pos (by omega)]
    · rw [if_neg h, if_neg (by omega)]
/-- What a fall leaves. -/
def Lg.fall (l : Lg) (keep : List Int) : Lg := ⟨l.room, false, false, 0, fallN keep l.fs.length l.fs⟩

/-- What a fall of one file leaves, ahead of the store. -/
structure Fell (w w' : World) (d : Nat) (s : S) (n : List UInt8) (f : F) (k : Int) (v' : Value) : Prop where
  c1 : w'.cell? ⟨d, 1, none⟩ = some (.int .i64 s.used)
  f1 : w'.frozen? ⟨d, 1, none⟩ = false
  at_ : At (w'.setCell ⟨d, 1, none⟩ (.int .i64 (s.used - ((f.data.length : Int) - (kept f.data.length f.sure k : Int))))) d { s with used := s.used - ((f.data.length : Int) - (kept f.data.length f.sure k : Int)), fs := put n (f.fall k v') s.fs }
  ch : Ch (Foot d s) w (w'.setCell ⟨d, 1, none⟩ (.int .i64 (s.used - ((f.data.length : Int) - (kept f.data.length f.sure k : Int)))))
  foot : ∀ j, Foot d { s with used := s.used - ((f.data.length : Int) - (kept f.data.length f.sure k : Int)), fs := put n (f.fall k v') s.fs } j → Foot d s j
theorem fell_any {w : World} {d : Nat} {s : S} {n : List UInt8} {f : F} (h : At w d s) (hl : look n s.fs = some f) (k : Int) :
    Calls Tryz.prog 41 #[dp f.blk, .int .i64 k] w fun e w' => ∃ v', e = .returned (.int .i64 ((f.data.length : Int) - (kept f.data.length f.sure k : Int))) ∧ Fell w w' d s n f k v' := by
  have hmem := look_mem hl
  have hne : f.blk ≠ d := h.file_ne hmem
  have hfile : File w f := h.file _ hmem
  have htot := total_mem hmem
  have hmo := h.most
  have hus := h.used
  refine (ffall_any hfile (fun e => h.file_data hmem hmem e rfl) k (by omega)).mono ?_
  rintro e w' ⟨v', rfl, hF, ho, hc⟩
  have hb : w'.heap[d]? = some (.cells s.cells 62 (0, 0)) := (hc.block _ (lt_of_heap h.blk) (fun e => hne e.symm)).trans h.blk
  have hk := kept_le k hfile.2.2
  have hC : Ch (fun j => j = d ∨ j = f.blk) w (w'.setCell ⟨d, 1, none⟩ (.int .i64 (s.used - ((f.data.length : Int) - (kept f.data.length f.sure k : Int))))) := (hc.mono fun _ _ e => .inr e).tr (Ch.setCell _ _ _ fun _ => .inl rfl)
  refine ⟨v', rfl, cell_of_row _ _ _ _ _ _ hb, frozen_of_row _ _ _ _ _ hb, ?_, hC.mono ?_, ?_⟩
  · refine h.turn hl rfl (hF.keep (Ch.set1 _ d 1 _) hne ?_) (hC.mono fun j _ e => e.imp id .inl) (heap_setCell_same _ d 1 _ 62 _ hb) (fun j hj => .inl ?_) ?_ ?_
    · intro j hj
      have hj : v'.ownBlock = some j := hj
      rw [ho] at hj
      exact h.data_ne hmem hj
    · have hj : v'.ownBlock = some j := hj
      rw [← ho]; exact hj
    · show s.used - ((f.data.length : Int) - (kept f.data.length f.sure k : Int)) + (f.data.length : Int) = s.used + ((f.data.take (kept f.data.length f.sure k)).length : Int)
      rw [List.length_take]
      omega
    · omega
  · rintro j _ (rfl | rfl)
    · exact .inl rfl
    · exact .inr (.inr ⟨_, hmem, .inl rfl⟩)
  · rintro j (e | e | ⟨p, hp, e⟩)
    · exact .inl e
    · exact .inr (.inl e)
    · rcases mem_put hp with rfl | hp
      · refine .inr (.inr ⟨_, hmem, e.imp id fun e => ?_⟩)
        have e : v'.ownBlock = some j := e
        rw [← ho]; exact e
      · exact .inr (.inr ⟨p, hp, e⟩)
theorem fall_lg (f : F) (k : Int) (v : Value) : (f.fall k v).lg = fallP k f.lg := rfl

theorem RdI.keep' {P : Nat → Prop} {w w' : World} {a : Option Addr} {xs : List Int} (h : RdI w a xs) (hc : Ch P w w') (hs : ∀ ad, a = some ad → xs ≠ [] → ¬ P ad.block) : RdI w' a xs := fun i hi => by
  obtain ⟨b, off, ha, h1⟩ := h i hi
  exact ⟨b, off, ha, hc.cell (p := ⟨b, off + i, none⟩) h1 (hs ⟨b, off, none⟩ ha (fun e => by rw [e] at hi; exact absurd hi (by simp)))⟩
/-- A round's facts. -/
structure Rnd (w wr : World) (d : Nat) (s si : S) (keep : List Int) (ii : Nat) (a ka : Option Addr) : Prop where
  at_ : At wr d si
  fs : si.lg.fs = fallN keep ii s.lg.fs
  room : si.room = s.room
  foot : ∀ k, Foot d si k → Foot d s k
  ch : Ch (Foot d s) w wr
  rs : RdS wr a (s.fs.map (·.1))
  ri : RdI wr ka keep
theorem Rnd.found {w wr : World} {d : Nat} {s si : S} {keep : List Int} {ii : Nat} {a ka : Option Addr} (h : Rnd w wr d s si keep ii a ka) (hi : ii < s.fs.length) :
    ∃ f, look ((s.fs.map (·.1)).getD ii []) si.fs = some f ∧ ∀ k v', on F.lg (put ((s.fs.map (·.1)).getD ii []) (f.fall k v') si.fs) = (fallN keep ii s.lg.fs).set ii ((s.fs.map (·.1)).getD ii [], fallP k (s.lg.fs[ii]'(by rw [lg_len]; exact hi)).2) := by
  have hf := h.fs
  have hl0 : ii < s.lg.fs.length := by rw [lg_len]; exact hi
  have hl1 : ii < (fallN keep ii s.lg.fs).length := by rw [fallN_length]; exact hl0
  have hl2 : ii < si.lg.fs.length := by rw [hf]; exact hl1
  have hl3 : ii < si.fs.length := by rw [← lg_len]; exact hl2
  have e1 : si.lg.fs[ii] = s.lg.fs[ii] := by
    have : si.lg.fs[ii] = (fallN keep ii s.lg.fs)[ii] := by congr 1
    rw [this, fallN_get _ _ _ _ hl1 hl0, if_neg (Nat.lt_irrefl _)]
  have e2 : si.lg.fs[ii] = ((si.fs[ii]).1, (si.fs[ii]).2.lg) := by
    show (on F.lg si.fs)[ii]'_ = _
    simp [on]
  have e3 : s.lg.fs[ii] = ((s.fs[ii]).1, (s.fs[ii]).2.lg) := by
    show (on F.lg s.fs)[ii]'_ = _
    simp [on]
  have en : (s.fs.map (·.1)).getD ii [] = (s.fs[ii]).1 := by
    rw [List.getD_eq_getElem?_getD, List.getElem?_map, List.getElem?_eq_getElem hi]; rfl
  have en2 : (si.fs[ii]).1 = (s.fs[ii]).1 := by
    rw [e2, e3] at e1; exact (Prod.mk.inj e1).1
  have ef : (si.fs[ii]).2.lg = (s.lg.fs[ii]).2 := by
    rw [e2] at e1; rw [← e1]
  refine ⟨(si.fs[ii]).2, ?_, fun k v' => ?_⟩
  · refine look_of_mem h.at_.asc ?_
    rw [en, ← en2]
    exact List.getElem_mem hl3
  · rw [put_on, fall_lg, ef, ← hf]
    refine put_at hl2 (on_asc _ h.at_.asc) ?_
    show (si.lg.fs[ii]).1 = _
    rw [e2, en, en2]
theorem Rnd.next {w wr w2 : World} {d : Nat} {s si : S} {keep : List Int} {ii : Nat} {a ka : Option Addr} {f : F} {v' : Value} {k : Int} (h : Rnd w wr d s si keep ii a ka) (hi : ii < s.fs.length) (hw : At w d s)
    (hf : ∀ k v', on F.lg (put ((s.fs.map (·.1)).getD ii []) (f.fall k v') si.fs) = (fallN keep ii s.lg.fs).set ii ((s.fs.map (·.1)).getD ii [], fallP k (s.lg.fs[ii]'(by rw [lg_len]; exact hi)).2))
    (ha : ∀ ad, a = some ad → w.heap.size ≤ ad.block) (hka : ∀ ad, ka = some ad → keep ≠ [] → ¬ Foot d s ad.block) (hk : k = keep.getD ii 0) {W : World} (hW : Ch (fun _ => False) wr W) (g : Fell W w2 d si ((s.fs.map (·.1)).getD ii []) f k v') :
    Rnd w (w2.setCell ⟨d, 1, none⟩ (.int .i64 (si.used - ((f.data.length : Int) - (kept f.data.length f.sure k : Int))))) d s { si with used := si.used - ((f.data.length : Int) - (kept f.data.length f.sure k : Int)), fs := put ((s.fs.map (·.1)).getD ii []) (f.fall k v') si.fs } keep (ii + 1) a ka := by
  have hc : Ch (Foot d s) wr (w2.setCell ⟨d, 1, none⟩ (.int .i64 (si.used - ((f.data.length : Int) - (kept f.data.length f.sure k : Int))))) := (hW.mono fun _ _ e => e.elim).trans g.ch fun j _ hj => h.foot j hj
  refine ⟨g.at_, ?_, h.room, fun j hj => h.foot j (g.foot j hj), h.ch.tr hc, h.rs.keep hc fun ad e hF => ?_, h.ri.keep' hc hka⟩
  · show on F.lg (put ((s.fs.map (·.1)).getD ii []) (f.fall k v') si.fs) = _
    have hl0 : ii < s.lg.fs.length := by rw [lg_len]; exact hi
    have en : (s.fs.map (·.1)).getD ii [] = (s.lg.fs[ii]).1 := by
      rw [List.getD_eq_getElem?_getD, List.getElem?_map, List.getElem?_eq_getElem hi]
      show _ = ((on F.lg s.fs)[ii]'_).1
      simp [on]
    rw [hf, hk, en, fallN_succ _ _ _ hl0]
  · have := hw.lt hF
    have := ha ad e
    omega

theorem Rnd.drew {w wr : World} {d : Nat} {s si : S} {keep : List Int} {ii : Nat} {a ka : Option Addr} (h : Rnd w wr d s si keep ii a ka) : Rnd w wr.drew d s si keep ii a ka :=
  ⟨h.at_.keep (Ch.drew (fun _ => False) _) (fun _ _ => id), h.fs, h.room, h.foot, h.ch.tr (Ch.drew _ _), h.rs.keep (Ch.drew (fun _ => False) _) (fun _ _ => id), h.ri.keep (Ch.drew (fun _ => False) _) (fun _ _ => id)⟩

set_option maxRecDepth 100000 in
set_option maxHeartbeats 4000000 in
theorem fall_at {w : World} {d : Nat} {s : S} (h : At w d s) (hlen : s.fs.length ≤ 1000000) (ka : Option Addr) (kc : Nat) (keep : List Int) (hK : RdI w ka keep) (hKF : ∀ ad, ka = some ad → keep ≠ [] → ¬ Foot d s ad.block) :
    Calls Tryz.prog 15 #[dp d, .slice ka keep.length kc] w fun e w' => e = .returned (.tuple #[]) ∧ ∃ s3, At w' d s3 ∧ s3.lg = s.lg.fall keep ∧ Ch (Foot d s) w w' ∧ ∀ k, Foot d s3 k → Foot d s k := by
  have HN := Lib.hid (names_any h hlen)
  have H := Lib.hid h
  have HKF := Lib.hid hKF
  have HKR := Lib.hid hK
  clear h hK hKF
  unfold dp at HN ⊢
  go_enter Tryz.func15, Tryz.ntmps15
  go_wp2_with (go_at_call 30; (with_reducible refine HN.out.mono ?_); rintro e w1 ⟨a, c, rfl, hR, ha, hb⟩)
  have HA := Lib.hid ha
  have hc0 : Ch (Foot d s) w w1 := Ch.of_new hb
  have hR0 : Rnd w w1 d s s keep 0 a ka := ⟨H.out.new hb, (fallN_zero _ _).symm, rfl, fun k hk => hk, hc0, hR, HKR.out.keep (Ch.of_new (S := fun _ => False) hb) (fun _ _ => id)⟩
  have HR0 := Lib.hid hR0
  clear ha hb hR hc0 hR0 HN
  go_loopw [12] (fun i wr => ∃ (ii : Nat) (si : S), i = .int .i64 (ii : Int) ∧ ii ≤ s.fs.length ∧ Hid (Rnd w wr d s si keep ii a ka)) (fun i _ => s.fs.length - (intOf i).toNat)
  case atStart => exact ⟨0, s, rfl, Nat.zero_le _, HR0⟩
  case round =>
    obtain ⟨ii, si, rfl, hi, HR⟩ := hrel
    clear HR0
    by_cases hlt : ii < s.fs.length
    · have hlt' : (ii : Int) < (s.fs.length : Int) := by omega
      have hi0 : (0 : Int) ≤ (ii : Int) := by omega
      obtain ⟨f, hl, HP⟩ := HR.out.found hlt
      obtain ⟨b, off, rfl, hc1⟩ := HR.out.rs ii (by rw [List.length_map]; exact hlt)
      have hA := HR.out.at_
      have hmem := look_mem hl
      have hnm := hA.names _ hmem
      have hsz := name_len hnm
      have hL1 := hA.look1 ⟨((s.fs.map (·.1)).getD ii []).toArray⟩ (by show (Array.size _) ≤ _; simp at hsz ⊢; omega)
      have hL2 := (hA.keep (Ch.drew (fun _ => False) wr) fun _ _ => id).look1 ⟨((s.fs.map (·.1)).getD ii []).toArray⟩ (by show (Array.size _) ≤ _; simp at hsz ⊢; omega)
      simp only [hl, ptr, dp] at hL1 hL2
      have htot := total_mem hmem
      have hmo := hA.most
      have hus := hA.used
      have hfile : File wr f := hA.file _ hmem
      have hkl := kept_le (keep.getD ii 0) hfile.2.2
      have k1 := hA.c1
      have k2 := hA.c2
      have kf := hA.fr 1
      have HC : Hid (∀ W, Ch (fun _ => False) wr W → Calls Tryz.prog 41 #[dp f.blk, .int .i64 (keep.getD ii 0)] W fun e w' => ∃ v', e = .returned (.int .i64 ((f.data.length : Int) - (kept f.data.length f.sure (keep.getD ii 0) : Int))) ∧ Fell W w' d si ((s.fs.map (·.1)).getD ii []) f (keep.getD ii 0) v') := Lib.hid fun W hW => fell_any (hA.keep hW fun _ _ => id) hl _
      have HX : Hid (∀ W w2 v', Ch (fun _ => False) wr W → Fell W w2 d si ((s.fs.map (·.1)).getD ii []) f (keep.getD ii 0) v' → _) := Lib.hid fun W w2 v' hW g => HR.out.next hlt H.out HP (fun ad e => (HA.out ad e).1) HKF.out rfl hW g
      have hu0 : 0 ≤ si.used := by omega
      have hu1 : si.used ≤ 1073741824 := by omega
      have hd0 : 0 ≤ (f.data.length : Int) - (kept f.data.length f.sure (keep.getD ii 0) : Int) := by omega
      have hd1 : (f.data.length : Int) - (kept f.data.length f.sure (keep.getD ii 0) : Int) ≤ 1073741824 := by omega
      unfold dp at HC
      clear hl HP hmem hnm hsz hA htot hmo hus hfile hkl
      have HRK : Hid (RdI wr ka keep) := Lib.hid HR.out.ri
      generalize (s.fs.map (·.1)).getD ii [] = nn at *
      by_cases hk : ii < keep.length
      · have hk' : (ii : Int) < (keep.length : Int) := by omega
        obtain ⟨b2, off2, rfl, hc2⟩ := HRK.out ii hk
        clear HRK HR
        generalize keep.getD ii 0 = kk at *
        generalize hU : (f.data.length : Int) - (kept f.data.length f.sure kk : Int) = U at *
        have hw : IntKind.i64.wrap (si.used - U) = si.used - U := by simp [IntKind.wrap, IntKind.bits, IntKind.signed]; omega
        go_wp2_with fail
        go_region_with (go_at_call 41; (with_reducible refine (HC.out _ (by first | exact Ch.refl _ _ | exact Ch.drew _ _)).mono ?_); rintro e w2 ⟨v', rfl, g⟩; have q1 := g.c1; have q2 := g.f1)
        all_goals (have HZ := Lib.hid (HX.out _ _ _ (by first | exact Ch.refl _ _ | exact Ch.drew _ _) g); clear g q1 q2 HX HC k1 k2 kf hL1 hL2 hw)
        all_goals go_wp2
        all_goals go_roundw
        all_goals first | (refine ⟨ii + 1, _, by go_num, by omega, HZ⟩) | (simp [intOf]; omega)
      · have hk' : (keep.length : Int) ≤ (ii : Int) := by omega
        have hz : keep.getD ii 0 = 0 := by rw [List.getD_eq_getElem?_getD, List.getElem?_eq_none (by omega)]; rfl
        clear HRK HR
        rw [hz] at HC HX hd0 hd1
        clear hz
        generalize hU : (f.data.length : Int) - (kept f.data.length f.sure 0 : Int) = U at *
        have hw : IntKind.i64.wrap (si.used - U) = si.used - U := by simp [IntKind.wrap, IntKind.bits, IntKind.signed]; omega
        go_wp2_with fail
        go_region_with (go_at_call 41; (with_reducible refine (HC.out _ (by first | exact Ch.refl _ _ | exact Ch.drew _ _)).mono ?_); rintro e w2 ⟨v', rfl, g⟩; have q1 := g.c1; have q2 := g.f1)
        all_goals (have HZ := Lib.hid (HX.out _ _ _ (by first | exact Ch.refl _ _ | exact Ch.drew _ _) g); clear g q1 q2 HX HC k1 k2 kf hL1 hL2 hw)
        all_goals go_wp2
        all_goals go_roundw
        all_goals first | (refine ⟨ii + 1, _, by go_num, by omega, HZ⟩) | (simp [intOf]; omega)
    · have hlt' : (s.fs.length : Int) ≤ (ii : Int) := by omega
      have e : ii = s.fs.length := by omega
      subst e
      have hA := HR.out.at_
      have k3 := hA.c3
      have k4 := hA.c4
      have k5 := hA.c5
      have f3 := hA.fr 3
      have f4 := hA.fr 4
      have f5 := hA.fr 5
      have HA2 := Lib.hid hA
      clear hA
      go_wp2
      go_end0
      have hC : Ch (fun k => k = d) wr (((wr.setCell ⟨d, 3, none⟩ (.bool false)).setCell ⟨d, 4, none⟩ (.bool false)).setCell ⟨d, 5, none⟩ (.int .i64 0)) := ((Ch.set1 wr d 3 _).tr (Ch.set1 _ d 4 _)).tr (Ch.set1 _ d 5 _)
      refine ⟨rfl, { si with down := false, lim := false, fuel := 0 }, ?_, ?_, HR.out.ch.tr (hC.mono fun k _ e => .inl e), fun k hk => HR.out.foot k (Foot.head (s := si) rfl rfl hk)⟩
      · refine HA2.out.head ?_ hC rfl rfl rfl HA2.out.room (by simp)
        exact heap_setCell_same _ d 5 _ 62 _ (heap_setCell_same _ d 4 _ 62 _ (HA2.out.set 3 _))
      · show (⟨si.room, false, false, 0, on F.lg si.fs⟩ : Lg) = ⟨s.room, false, false, 0, fallN keep s.lg.fs.length s.lg.fs⟩
        rw [HR.out.room, lg_len, ← HR.out.fs]
        rfl
theorem fall_any {w : World} {d : Nat} {l : Lg} {G : Nat → Prop} (h : Dk w d l G) (hlen : l.fs.length ≤ 1000000) (ka : Option Addr) (kc : Nat) (keep : List Int) (hK : RdI w ka keep) (hKF : ∀ ad, ka = some ad → keep ≠ [] → ¬ G ad.block) :
    Calls Tryz.prog 15 #[dp d, .slice ka keep.length kc] w fun e w' => e = .returned (.tuple #[]) ∧ Dk w' d (l.fall keep) G ∧ Ch G w w' := by
  obtain ⟨s, hA, rfl, hG⟩ := h
  refine (fall_at hA (by rw [← lg_len]; exact hlen) ka kc keep hK (fun ad e hne hF => hKF ad e hne (hG _ hF))).mono ?_
  rintro e w' ⟨rfl, s3, hA3, hl3, hc, hF⟩
  exact ⟨rfl, ⟨s3, hA3, hl3, fun k hk => hG k (hF k hk)⟩, hc.mono fun k _ h => hG k h⟩
end Go.Proofs.YtogihpofkjpokaaGreatDoor.D4
