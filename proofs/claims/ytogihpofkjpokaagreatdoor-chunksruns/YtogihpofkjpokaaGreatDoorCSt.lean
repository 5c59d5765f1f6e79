/- A store whole: what it says, where it lies; the walks of what only asks it. -/
import Derived.Test.YtogihpofkjpokaaGreatDoorCAdd
namespace Go.Proofs.YtogihpofkjpokaaGreatDoor
open Go Go.RowKit Go.Maps
open D4 (put Asc RdS Dk Lg More dp lt_of_heap)
open F5 (txt txt_size txt_data data_txt OwT RdT frameL flat sv)

/-- What a store says. -/
structure Ab where
  size : Nat
  live : Nat
  torn : Bool
  root : List UInt8
  kept : Tx
  fresh : Tx
  down : Bool
def Ab.ss (a : Ab) (d : Nat) (km fm : Option Nat) : SS := ⟨d, a.size, a.live, a.torn, a.root, km, fm, a.down⟩
structure St (w : World) (sb d : Nat) (a : Ab) (km fm : Option Nat) (l : Lg) (D G : Nat → Prop) : Prop where
  sd : SD w sb (a.ss d km fm) l D
  pk : Pile w km a.kept
  pf : Pile w fm a.fresh
  kn : km ≠ none
  dk : ∀ b, km = some b → ¬ D b
  df : ∀ b, fm = some b → ¬ D b
  kf : ∀ b, fm = some b → km ≠ some b
  foot : ∀ k, k = sb ∨ km = some k ∨ fm = some k ∨ D k → G k
  kr : S1.KR w
  g0 : ¬ G 0
/-- A store that says this, on a disk that says that, within these blocks. -/
def Str (w : World) (sb d : Nat) (a : Ab) (l : Lg) (G : Nat → Prop) : Prop := ∃ km fm D, St w sb d a km fm l D G
theorem KR_keep {P : Nat → Prop} {w w' : World} (h : S1.KR w) (hc : Ch P w w') (h0 : ¬ P 0) : S1.KR w' := fun j hj => hc.cell (p := ⟨0, j, none⟩) (h j hj) h0
section
variable {w w' : World} {sb d : Nat} {a : Ab} {km fm : Option Nat} {l : Lg} {D G P : Nat → Prop}
theorem St.keep (h : St w sb d a km fm l D G) (hc : Ch P w w') (hs : ∀ k, G k → ¬ P k) (h0 : ¬ P 0) : St w' sb d a km fm l D G where
  sd := h.sd.keep hc (hs _ (h.foot _ (.inl rfl))) fun k hk => hs k (h.foot k (.inr (.inr (.inr hk))))
  pk := h.pk.keep hc fun b e => hs b (h.foot b (.inr (.inl e)))
  pf := h.pf.keep hc fun b e => hs b (h.foot b (.inr (.inr (.inl e))))
  kn := h.kn
  dk := h.dk
  df := h.df
  kf := h.kf
  foot := h.foot
  kr := KR_keep h.kr hc h0
  g0 := h.g0
theorem Str.keep (h : Str w sb d a l G) (hc : Ch P w w') (hs : ∀ k, G k → ¬ P k) (h0 : ¬ P 0) : Str w' sb d a l G := by
  obtain ⟨km, fm, D, h⟩ := h
  exact ⟨km, fm, D, h.keep hc hs h0⟩
theorem Str.new (h : Str w sb d a l G) (hb : Below w.heap.size w w') : Str w' sb d a l G := h.keep (Ch.of_new (S := fun _ => False) hb) (fun _ _ => id) id
theorem Str.drewN (h : Str w sb d a l G) (n : Nat) : Str (w.drewN n) sb d a l G := h.keep (Ch.drewN (fun _ => False) w n) (fun _ _ => id) id
theorem St.lt (h : St w sb d a km fm l D G) {k : Nat} (hk : k = sb ∨ km = some k ∨ fm = some k ∨ D k) : k < w.heap.size ∨ D k := by
  rcases hk with rfl | e | e | e
  · exact .inl h.sd.at_.lt
  · exact .inl (h.pk.lt e)
  · exact .inl (h.pf.lt e)
  · exact .inr e
/-- Its blocks can be told to be among those that are there. -/
theorem Str.low (h : Str w sb d a l G) : Str w sb d a l fun k => G k ∧ k < w.heap.size := by
  obtain ⟨km, fm, D, h⟩ := h
  obtain ⟨s, hA, hl, hF⟩ := h.sd.dk
  refine ⟨km, fm, fun k => D k ∧ k < w.heap.size, ⟨h.sd.at_, ⟨s, hA, hl, fun k hk => ⟨hF k hk, hA.lt hk⟩⟩, fun e => h.sd.apart e.1⟩, h.pk, h.pf, h.kn, fun b e x => h.dk b e x.1, fun b e x => h.df b e x.1, h.kf, ?_, h.kr, fun e => h.g0 e.1⟩
  rintro k (rfl | e | e | e)
  · exact ⟨h.foot _ (.inl rfl), h.sd.at_.lt⟩
  · exact ⟨h.foot _ (.inr (.inl e)), h.pk.lt e⟩
  · exact ⟨h.foot _ (.inr (.inr (.inl e))), h.pf.lt e⟩
  · exact ⟨h.foot _ (.inr (.inr (.inr e.1))), e.2⟩
theorem Str.mono {G' : Nat → Prop} (h : Str w sb d a l G) (hG : ∀ k, k < w.heap.size → G k → G' k) (h0 : ¬ G' 0) : Str w sb d a l G' := by
  obtain ⟨km, fm, D, h⟩ := h.low
  exact ⟨km, fm, D, h.sd, h.pk, h.pf, h.kn, h.dk, h.df, h.kf, fun k hk => hG k (h.foot k hk).2 (h.foot k hk).1, h.kr, h0⟩
theorem Str.kr (h : Str w sb d a l G) : S1.KR w := by obtain ⟨_, _, _, h⟩ := h; exact h.kr
theorem Str.g0 (h : Str w sb d a l G) : ¬ G 0 := by obtain ⟨_, _, _, h⟩ := h; exact h.g0
theorem Str.pos (h : Str w sb d a l G) : 0 < w.heap.size := h.kr.pos
/-- Behind a call on its disk. -/
theorem St.disk {l' : Lg} {D' : Nat → Prop} (h : St w sb d a km fm l D G) (hD : Dk w' d l' (More D' w w')) (hD' : ∀ k, D' k → D k) (hc : Ch D w w') : St w' sb d a km fm l' (More D w w') (More G w w') where
  sd := ⟨h.sd.at_.keep hc h.sd.apart, hD.mono fun k _ hk => hk.imp (hD' k) id, More.not h.sd.apart h.sd.at_.lt⟩
  pk := h.pk.keep hc fun b e => h.dk b e
  pf := h.pf.keep hc fun b e => h.df b e
  kn := h.kn
  dk := fun b e => More.not (h.dk b e) (h.pk.lt e)
  df := fun b e => More.not (h.df b e) (h.pf.lt e)
  kf := h.kf
  foot := fun k hk => by
    rcases hk with e | e | e | (e | e)
    · exact .inl (h.foot k (.inl e))
    · exact .inl (h.foot k (.inr (.inl e)))
    · exact .inl (h.foot k (.inr (.inr (.inl e))))
    · exact .inl (h.foot k (.inr (.inr (.inr e))))
    · exact .inr e
  kr := KR_keep h.kr hc fun e => h.g0 (h.foot 0 (.inr (.inr (.inr e))))
  g0 := More.not h.g0 h.kr.pos
end

/-! what only asks -/
set_option maxRecDepth 100000 in
theorem sdown_any {w : World} {sb d : Nat} {a : Ab} {l : Lg} {G : Nat → Prop} (h : Str w sb d a l G) :
    Calls Tryz.prog 20 #[.pointer (some ⟨sb, 0, none⟩)] w fun e w' => e = .returned (.bool a.down) ∧ w' = w := by
  obtain ⟨km, fm, D, h⟩ := h
  have c7 : w.cell? ⟨sb, 7, none⟩ = some (.bool a.down) := h.sd.at_.c7
  clear h
  go_enter Tryz.func20, Tryz.ntmps20
  go_wp2
  go_ret
  exact ⟨rfl, rfl⟩
set_option maxRecDepth 100000 in
theorem sroot_any {w : World} {sb d : Nat} {a : Ab} {l : Lg} {G : Nat → Prop} (h : Str w sb d a l G) :
    Calls Tryz.prog 14 #[.pointer (some ⟨sb, 0, none⟩)] w fun e w' => e = .returned (.string (txt a.root)) ∧ w' = w := by
  obtain ⟨km, fm, D, h⟩ := h
  have c4 : w.cell? ⟨sb, 4, none⟩ = some (.string (txt a.root)) := h.sd.at_.c4
  clear h
  go_enter Tryz.func14, Tryz.ntmps14
  go_wp2
  go_ret
  exact ⟨rfl, rfl⟩
set_option maxRecDepth 100000 in
theorem sprints_any {w : World} {sb d : Nat} {a : Ab} {l : Lg} {G : Nat → Prop} (h : Str w sb d a l G) (hl : a.kept.length ≤ 1000000) :
    Calls Tryz.prog 13 #[.pointer (some ⟨sb, 0, none⟩)] w fun e w' => ∃ v, e = .returned v ∧ OwT w' w.heap.size v (a.kept.map (·.1)) ∧ Below w.heap.size w w' := by
  obtain ⟨km, fm, D, h⟩ := h
  have c5 : w.cell? ⟨sb, 5, none⟩ = some (.map km) := h.sd.at_.c5
  have P := Lib.hid (prints_any h.pk hl)
  clear h
  go_enter Tryz.func13, Tryz.ntmps13
  go_wp2_with (go_at_call 40; (with_reducible refine P.out.mono ?_); rintro e w1 ⟨v, rfl, ho, hb⟩)
  go_ret
  exact ⟨v, rfl, ho, hb⟩
/-- What Get finds. -/
def Ab.get (a : Ab) (p : List UInt8) : Option (List UInt8) := (D4.look p a.kept).or (D4.look p a.fresh)
def txo : Option (List UInt8) → List UInt8
  | none => []
  | some t => t
set_option maxRecDepth 100000 in
set_option maxHeartbeats 1000000 in
theorem sget_any {w : World} {sb d : Nat} {a : Ab} {l : Lg} {G : Nat → Prop} (h : Str w sb d a l G) (p : List UInt8) (hp : p.length ≤ 1000000) :
    Calls Tryz.prog 18 #[.pointer (some ⟨sb, 0, none⟩), .string (txt p)] w fun e w' => e = .returned (.tuple #[.string (txt (txo (a.get p))), .bool (a.get p).isSome]) ∧ Below w.heap.size w w' := by
  obtain ⟨km, fm, D, h⟩ := h
  have c5 : w.cell? ⟨sb, 5, none⟩ = some (.map km) := h.sd.at_.c5
  have hL := h.pk.look (txt p) (by rw [txt_size]; omega)
  rw [data_txt] at hL
  unfold Ab.get
  cases hk : D4.look p a.kept with
  | some t =>
    rw [hk] at hL
    rw [show (some t).or (D4.look p a.fresh) = some t from rfl]
    simp only [cvo, cv, Option.isSome_some, txo] at hL ⊢
    clear h hk
    generalize txt t = tt at hL ⊢
    go_enter Tryz.func18, Tryz.ntmps18
    go_wp2
    go_ret2
    exact ⟨rfl, (Below.refl _ _).alloc (Nat.le_refl _) _⟩
  | none =>
    rw [hk] at hL
    rw [show (none : Option (List UInt8)).or (D4.look p a.fresh) = D4.look p a.fresh from rfl]
    have c6 : ∀ o, (w.alloc o).cell? ⟨sb, 6, none⟩ = some (.map fm) := fun o => (h.sd.at_.new ((Below.refl _ _).alloc (Nat.le_refl _) o)).c6
    have hL2 : ∀ o, (Instr.lookup 71 (.map fm) (.string (txt p)) true).run Tryz.prog (w.alloc o) = .ok (.tuple #[cvo (D4.look p a.fresh), .bool (D4.look p a.fresh).isSome]) (w.alloc o) := fun o => (h.pf.new ((Below.refl _ _).alloc (Nat.le_refl _) o)).look (txt p) (by rw [txt_size]; omega)
    simp only [cvo, cv, Option.isSome_none] at hL
    clear h hk
    cases hfr : D4.look p a.fresh with
    | some t =>
      rw [hfr] at hL2
      simp only [cvo, cv, Option.isSome_some, txo] at hL2 ⊢
      generalize txt t = tt at hL2 ⊢
      go_enter Tryz.func18, Tryz.ntmps18
      go_wp2
      go_ret2
      exact ⟨rfl, (Below.refl _ _).alloc (Nat.le_refl _) _⟩
    | none =>
      rw [hfr] at hL2
      simp only [cvo, cv, Option.isSome_none, txo] at hL2 ⊢
      generalize txt [] = tt at hL hL2 ⊢
      go_enter Tryz.func18, Tryz.ntmps18
      go_wp2
      go_ret2
      exact ⟨rfl, (Below.refl _ _).alloc (Nat.le_refl _) _⟩
end Go.Proofs.YtogihpofkjpokaaGreatDoor
