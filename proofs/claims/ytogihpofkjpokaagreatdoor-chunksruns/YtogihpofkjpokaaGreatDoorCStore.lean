/- A store's own cells; the walks of extend and replace. -/
import Derived.Test.YtogihpofkjpokaaGreatDoorCPile
import Derived.Test.YtogihpofkjpokaaGreatDoorDRename
import Derived.Test.YtogihpofkjpokaaGreatDoorDAwake
namespace Go.Proofs.YtogihpofkjpokaaGreatDoor
open Go Go.RowKit Go.Maps
open D4 (put Asc RdS Dk Lg More dp lt_of_heap)
open F5 (txt txt_size txt_data data_txt OwT RdT frameL flat sv)

def logN : List UInt8 := [99, 104, 117, 110, 107, 115, 46, 108, 111, 103]
def spN : List UInt8 := [99, 104, 117, 110, 107, 115, 46, 110, 101, 119]
structure SS where
  d : Nat
  size : Nat
  live : Nat
  torn : Bool
  root : List UInt8
  km : Option Nat
  fm : Option Nat
  down : Bool
def SS.cells (s : SS) : Array Value := #[dp s.d, .int .i64 (s.size : Int), .int .i64 (s.live : Int), .bool s.torn, .string (txt s.root), .map s.km, .map s.fm, .bool s.down]
/-- The store's own block. -/
def SAt (w : World) (sb : Nat) (s : SS) : Prop := w.heap[sb]? = some (.cells s.cells 73 (0, 0))
section
variable {w w' : World} {sb : Nat} {s : SS}
theorem SAt.c0 (h : SAt w sb s) : w.cell? ⟨sb, 0, none⟩ = some (dp s.d) := cell_of_row _ _ _ _ _ _ h
theorem SAt.c1 (h : SAt w sb s) : w.cell? ⟨sb, 1, none⟩ = some (.int .i64 (s.size : Int)) := cell_of_row _ _ _ _ _ _ h
theorem SAt.c2 (h : SAt w sb s) : w.cell? ⟨sb, 2, none⟩ = some (.int .i64 (s.live : Int)) := cell_of_row _ _ _ _ _ _ h
theorem SAt.c3 (h : SAt w sb s) : w.cell? ⟨sb, 3, none⟩ = some (.bool s.torn) := cell_of_row _ _ _ _ _ _ h
theorem SAt.c4 (h : SAt w sb s) : w.cell? ⟨sb, 4, none⟩ = some (.string (txt s.root)) := cell_of_row _ _ _ _ _ _ h
theorem SAt.c5 (h : SAt w sb s) : w.cell? ⟨sb, 5, none⟩ = some (.map s.km) := cell_of_row _ _ _ _ _ _ h
theorem SAt.c6 (h : SAt w sb s) : w.cell? ⟨sb, 6, none⟩ = some (.map s.fm) := cell_of_row _ _ _ _ _ _ h
theorem SAt.c7 (h : SAt w sb s) : w.cell? ⟨sb, 7, none⟩ = some (.bool s.down) := cell_of_row _ _ _ _ _ _ h
theorem SAt.fr (h : SAt w sb s) (i : Nat) : w.frozen? ⟨sb, i, none⟩ = false := frozen_of_row _ _ _ _ _ h
theorem SAt.set (h : SAt w sb s) (i : Nat) (x : Value) : (w.setCell ⟨sb, i, none⟩ x).heap[sb]? = some (.cells (s.cells.setIfInBounds i x) 73 (0, 0)) := heap_setCell_same w sb i s.cells 73 x h
theorem SAt.lt (h : SAt w sb s) : sb < w.heap.size := lt_of_heap h
theorem SAt.keep {P : Nat → Prop} (h : SAt w sb s) (hc : Ch P w w') (hs : ¬ P sb) : SAt w' sb s := (hc.block sb h.lt hs).trans h
theorem SAt.new (h : SAt w sb s) (hb : Below w.heap.size w w') : SAt w' sb s := (hb.block sb h.lt).trans h
end
/-- A store's block and its disk, apart. -/
structure SD (w : World) (sb : Nat) (s : SS) (l : Lg) (G : Nat → Prop) : Prop where
  at_ : SAt w sb s
  dk : Dk w s.d l G
  apart : ¬ G sb
theorem SD.keep {P G : Nat → Prop} {w w' : World} {sb : Nat} {s : SS} {l : Lg} (h : SD w sb s l G) (hc : Ch P w w') (h1 : ¬ P sb) (h2 : ∀ k, G k → ¬ P k) : SD w' sb s l G := ⟨h.at_.keep hc h1, h.dk.keep hc h2, h.apart⟩
theorem SD.new {G : Nat → Prop} {w w' : World} {sb : Nat} {s : SS} {l : Lg} (h : SD w sb s l G) (hb : Below w.heap.size w w') : SD w' sb s l G := ⟨h.at_.new hb, h.dk.new hb, h.apart⟩
theorem SD.drew {G : Nat → Prop} {w : World} {sb : Nat} {s : SS} {l : Lg} (h : SD w sb s l G) (n : Nat) : SD (w.drewN n) sb s l G := h.keep (Ch.drewN (fun _ => False) w n) id (fun _ _ => id)
/-- One of the store's own cells turned. -/
theorem SD.upd {G : Nat → Prop} {w : World} {sb : Nat} {s s' : SS} {l : Lg} (h : SD w sb s l G) (i : Nat) (x : Value) (he : s.cells.setIfInBounds i x = s'.cells) (hd : s'.d = s.d) : SD (w.setCell ⟨sb, i, none⟩ x) sb s' l G :=
  ⟨by unfold SAt; rw [← he]; exact h.at_.set i x, by rw [hd]; exact h.dk.keep (Ch.setCell (S := fun k => k = sb) _ _ _ fun _ => rfl) (fun k hk e => h.apart (e ▸ hk)), h.apart⟩
theorem SD.mono {G G' : Nat → Prop} {w : World} {sb : Nat} {s : SS} {l : Lg} (h : SD w sb s l G) (hG : ∀ k, k < w.heap.size → G k → G' k) (hn : ¬ G' sb) : SD w sb s l G' := ⟨h.at_, h.dk.mono hG, hn⟩
theorem More.trans' {G : Nat → Prop} {a b c : World} (h1 : a.heap.size ≤ b.heap.size) (h2 : b.heap.size ≤ c.heap.size) (k : Nat) (h : More (More G a b) b c k) : More G a c k := by
  rcases h with (h | ⟨h, h'⟩) | ⟨h, h'⟩
  · exact .inl h
  · exact .inr ⟨h, by omega⟩
  · exact .inr ⟨by omega, h'⟩
theorem More.wide {G : Nat → Prop} {a b c : World} (h2 : b.heap.size ≤ c.heap.size) (k : Nat) (h : More G a b k) : More G a c k := h.imp id fun h => ⟨h.1, by omega⟩
theorem More.not {G : Nat → Prop} {a b : World} {k : Nat} (h : ¬ G k) (hk : k < a.heap.size) : ¬ More G a b k := by
  rintro (e | e)
  · exact h e
  · omega

/-- What extend answers, and what it leaves of the disk. -/
def extC (l : Lg) (fs : List UInt8) : Int := if l.appC logN fs = 0 then (l.app logN fs).syncC logN else l.appC logN fs
def extL (l : Lg) (fs : List UInt8) : Lg := if l.appC logN fs = 0 then (l.app logN fs).sync logN else l.app logN fs
set_option maxRecDepth 100000 in
set_option maxHeartbeats 4000000 in
theorem extend_any {w : World} {sb : Nat} {s : SS} {l : Lg} {G : Nat → Prop} (h : SD w sb s l G) (fs : List UInt8) (hl : l.fs.length ≤ 1000) (hf : fs.length ≤ 100000000) (hz : s.size ≤ 100000000) :
    Calls Tryz.prog 64 #[.pointer (some ⟨sb, 0, none⟩), .string (txt fs)] w fun e w' => e = .returned (.int .i64 (extC l fs)) ∧ SD w' sb (if extC l fs = 0 then { s with size := s.size + fs.length } else s) (extL l fs) (More G w w') ∧ Ch (fun k => k = sb ∨ G k) w w' := by
  have P1 : Hid (Calls Tryz.prog 85 #[.pointer (some ⟨s.d, 0, none⟩), .string ⟨#[99, 104, 117, 110, 107, 115, 46, 108, 111, 103]⟩, .string (txt fs)] w fun e w' => e = .returned (.int .i64 (l.appC logN fs)) ∧ SD w' sb s (l.app logN fs) (More G w w') ∧ Ch G w w') := Lib.hid (by
    refine (D4.append_any h.dk ⟨#[99, 104, 117, 110, 107, 115, 46, 108, 111, 103]⟩ (txt fs) (by omega) (by rw [txt_size]; omega)).mono ?_
    rintro e w' ⟨rfl, hD, hc⟩
    exact ⟨rfl, ⟨h.at_.keep hc h.apart, hD, More.not h.apart h.at_.lt⟩, hc⟩)
  have P2 : Hid (∀ W, Ch G w W → SD W sb s (l.app logN fs) (More G w W) → Calls Tryz.prog 86 #[.pointer (some ⟨s.d, 0, none⟩), .string ⟨#[99, 104, 117, 110, 107, 115, 46, 108, 111, 103]⟩] W fun e w' => e = .returned (.int .i64 ((l.app logN fs).syncC logN)) ∧ SD w' sb s ((l.app logN fs).sync logN) (More G w w') ∧ Ch G w w') := Lib.hid (fun W hW hS => by
    refine (D4.sync_any hS.dk ⟨#[99, 104, 117, 110, 107, 115, 46, 108, 111, 103]⟩).mono ?_
    rintro e w' ⟨rfl, hD, hc⟩
    refine ⟨rfl, ⟨hS.at_.keep hc hS.apart, hD.mono fun k _ hk => More.wide hc.size k hk, More.not h.apart h.at_.lt⟩, hW.trans hc fun j hj hm => ?_⟩
    rcases hm with hm | hm
    · exact hm
    · omega)
  have c0 := h.at_.c0
  have H := Lib.hid h
  have hsz : (s.size : Int) ≤ 100000000 := by omega
  have hfz : (fs.length : Int) ≤ 100000000 := by omega
  have htz := txt_size fs
  clear h
  unfold extC extL
  by_cases h1 : l.appC logN fs = 0
  · rw [if_pos h1]
    rw [h1] at P1
    rw [if_pos h1]
    by_cases h2 : (l.app logN fs).syncC logN = 0
    · rw [h2] at P2
      rw [h2, if_pos rfl]
      clear h1 h2
      generalize l.app logN fs = l1 at P1 P2 ⊢
      unfold dp at c0
      go_enter Tryz.func64, Tryz.ntmps64
      go_wp2_with (first
        | (go_at_call 85; (with_reducible refine P1.out.mono ?_); rintro e w1 ⟨rfl, hS1, hc1⟩; have c01 := hS1.at_.c0; unfold dp at c01)
        | (go_at_call 86; (with_reducible refine (P2.out _ hc1 hS1).mono ?_); rintro e w2 ⟨rfl, hS2, hc2⟩; have c12 := hS2.at_.c1; have f12 := hS2.at_.fr 1))
      go_ret
      refine ⟨rfl, (hS2.upd 1 _ (s' := { s with size := s.size + fs.length }) rfl rfl).mono (fun k _ hk => More.wide (by simp [World.setCell]) k hk) (More.not H.out.apart H.out.at_.lt), ?_⟩
      exact (hc2.mono fun _ _ e => .inr e).tr (Ch.setCell _ _ _ fun _ => .inl rfl)
    · rw [if_neg h2]
      clear h1
      generalize hc : (l.app logN fs).syncC logN = c at P2 h2 ⊢
      clear hc
      generalize l.app logN fs = l1 at P1 P2 ⊢
      unfold dp at c0
      go_enter Tryz.func64, Tryz.ntmps64
      go_wp2_with (first
        | (go_at_call 85; (with_reducible refine P1.out.mono ?_); rintro e w1 ⟨rfl, hS1, hc1⟩; have c01 := hS1.at_.c0; unfold dp at c01)
        | (go_at_call 86; (with_reducible refine (P2.out _ hc1 hS1).mono ?_); rintro e w2 ⟨rfl, hS2, hc2⟩))
      go_ret
      exact ⟨rfl, hS2, hc2.mono fun _ _ e => .inr e⟩
  · rw [if_neg h1, if_neg h1, if_neg h1]
    clear P2
    generalize hc : l.appC logN fs = c at P1 h1 ⊢
    clear hc
    generalize l.app logN fs = l1 at P1 ⊢
    unfold dp at c0
    go_enter Tryz.func64, Tryz.ntmps64
    go_wp2_with (go_at_call 85; (with_reducible refine P1.out.mono ?_); rintro e w1 ⟨rfl, hS1, hc1⟩)
    go_ret
    exact ⟨rfl, hS1, hc1.mono fun _ _ e => .inr e⟩

/-- What replace answers, and what it leaves of the disk. -/
def repC (l : Lg) (fs : List UInt8) : Int :=
  if l.syncC spN = 0 ∨ l.syncC spN = 4 then
    (if (l.dele spN).appC spN fs = 0 then
      (if ((l.dele spN).app spN fs).syncC spN = 0 then (((l.dele spN).app spN fs).sync spN).renC spN logN else ((l.dele spN).app spN fs).syncC spN)
    else (l.dele spN).appC spN fs)
  else l.syncC spN
def repL (l : Lg) (fs : List UInt8) : Lg :=
  if l.syncC spN = 0 ∨ l.syncC spN = 4 then
    (if (l.dele spN).appC spN fs = 0 then
      (if ((l.dele spN).app spN fs).syncC spN = 0 then (((l.dele spN).app spN fs).sync spN).ren spN logN else ((l.dele spN).app spN fs).sync spN)
    else (l.dele spN).app spN fs)
  else l.dele spN
theorem dele_len (l : Lg) (n : List UInt8) : (l.dele n).fs.length ≤ l.fs.length := by
  unfold Lg.dele
  split
  · split
    · show (D4.del n l.fs).length ≤ _
      unfold D4.del
      exact List.length_filter_le _ _
    · rw [D4.step_fs']; exact Nat.le_refl _
  · exact Nat.le_refl _
theorem put_len {α : Type} (n : List UInt8) (a : α) : ∀ l : List (List UInt8 × α), (put n a l).length ≤ l.length + 1
  | [] => by simp [put]
  | p :: r => by
    have := put_len n a r
    unfold put
    split
    · simp
    · split <;> simp; omega
theorem app_len (l : Lg) (n s : List UInt8) : (l.app n s).fs.length ≤ l.fs.length + 1 := by
  unfold Lg.app
  split
  · omega
  · split
    · split
      · omega
      · split
        · exact put_len _ _ _
        · rw [D4.step_fs']; omega
    · omega
theorem sync_len (l : Lg) (n : List UInt8) : (l.sync n).fs.length ≤ l.fs.length + 1 := by
  unfold Lg.sync
  split
  · split
    · exact put_len _ _ _
    · rw [D4.step_fs']; omega
  · omega
set_option maxRecDepth 100000 in
set_option maxHeartbeats 4000000 in
theorem replace_any {w : World} {sb : Nat} {s : SS} {l : Lg} {G : Nat → Prop} (h : SD w sb s l G) (fs : List UInt8) (hl : l.fs.length ≤ 1000) (hf : fs.length ≤ 100000000) :
    Calls Tryz.prog 63 #[.pointer (some ⟨sb, 0, none⟩), .string (txt fs)] w fun e w' => e = .returned (.int .i64 (repC l fs)) ∧ SD w' sb (if repC l fs = 0 then { s with size := fs.length, torn := false } else s) (repL l fs) (More G w w') ∧ Ch (fun k => k = sb ∨ G k) w w' := by
  have hl0 := dele_len l spN
  have hl1 := app_len (l.dele spN) spN fs
  have hl2 := sync_len ((l.dele spN).app spN fs) spN
  have P0 : Hid (Calls Tryz.prog 84 #[.pointer (some ⟨s.d, 0, none⟩), .string ⟨#[99, 104, 117, 110, 107, 115, 46, 110, 101, 119]⟩] w fun e w' => e = .returned (.int .i64 (l.syncC spN)) ∧ SD w' sb s (l.dele spN) (More G w w') ∧ Ch G w w') := Lib.hid (by
    refine (D4.delete_any h.dk ⟨#[99, 104, 117, 110, 107, 115, 46, 110, 101, 119]⟩).mono ?_
    rintro e w' ⟨rfl, hD, hc⟩
    exact ⟨rfl, ⟨h.at_.keep hc h.apart, hD.mono fun k _ hk => .inl hk, More.not h.apart h.at_.lt⟩, hc⟩)
  have P1 : Hid (∀ W, Ch G w W → SD W sb s (l.dele spN) (More G w W) → Calls Tryz.prog 85 #[.pointer (some ⟨s.d, 0, none⟩), .string ⟨#[99, 104, 117, 110, 107, 115, 46, 110, 101, 119]⟩, .string (txt fs)] W fun e w' => e = .returned (.int .i64 ((l.dele spN).appC spN fs)) ∧ SD w' sb s ((l.dele spN).app spN fs) (More G w w') ∧ Ch G w w') := Lib.hid (fun W hW hS => by
    refine (D4.append_any hS.dk ⟨#[99, 104, 117, 110, 107, 115, 46, 110, 101, 119]⟩ (txt fs) (by omega) (by rw [txt_size]; omega)).mono ?_
    rintro e w' ⟨rfl, hD, hc⟩
    refine ⟨rfl, ⟨hS.at_.keep hc hS.apart, hD.mono fun k _ hk => More.trans' hW.size hc.size k hk, More.not h.apart h.at_.lt⟩, hW.trans hc fun j hj hm => ?_⟩
    rcases hm with hm | hm
    · exact hm
    · omega)
  have P2 : Hid (∀ W, Ch G w W → SD W sb s ((l.dele spN).app spN fs) (More G w W) → Calls Tryz.prog 86 #[.pointer (some ⟨s.d, 0, none⟩), .string ⟨#[99, 104, 117, 110, 107, 115, 46, 110, 101, 119]⟩] W fun e w' => e = .returned (.int .i64 (((l.dele spN).app spN fs).syncC spN)) ∧ SD w' sb s (((l.dele spN).app spN fs).sync spN) (More G w w') ∧ Ch G w w') := Lib.hid (fun W hW hS => by
    refine (D4.sync_any hS.dk ⟨#[99, 104, 117, 110, 107, 115, 46, 110, 101, 119]⟩).mono ?_
    rintro e w' ⟨rfl, hD, hc⟩
    refine ⟨rfl, ⟨hS.at_.keep hc hS.apart, hD.mono fun k _ hk => More.wide hc.size k hk, More.not h.apart h.at_.lt⟩, hW.trans hc fun j hj hm => ?_⟩
    rcases hm with hm | hm
    · exact hm
    · omega)
  have P3 : Hid (∀ W, Ch G w W → SD W sb s (((l.dele spN).app spN fs).sync spN) (More G w W) → Calls Tryz.prog 87 #[.pointer (some ⟨s.d, 0, none⟩), .string ⟨#[99, 104, 117, 110, 107, 115, 46, 110, 101, 119]⟩, .string ⟨#[99, 104, 117, 110, 107, 115, 46, 108, 111, 103]⟩] W fun e w' => e = .returned (.int .i64 ((((l.dele spN).app spN fs).sync spN).renC spN logN)) ∧ SD w' sb s ((((l.dele spN).app spN fs).sync spN).ren spN logN) (More G w w') ∧ Ch G w w') := Lib.hid (fun W hW hS => by
    refine (D4.rename_any hS.dk (by omega) ⟨#[99, 104, 117, 110, 107, 115, 46, 110, 101, 119]⟩ ⟨#[99, 104, 117, 110, 107, 115, 46, 108, 111, 103]⟩).mono ?_
    rintro e w' ⟨rfl, hD, hc⟩
    refine ⟨rfl, ⟨hS.at_.keep hc hS.apart, hD.mono fun k _ hk => More.wide hc.size k hk, More.not h.apart h.at_.lt⟩, hW.trans hc fun j hj hm => ?_⟩
    rcases hm with hm | hm
    · exact hm
    · omega)
  have c0 := h.at_.c0
  have H := Lib.hid h
  have htz := txt_size fs
  have hfz : (fs.length : Int) ≤ 100000000 := by omega
  clear h hl0 hl1 hl2
  unfold dp at c0
  unfold repC repL
  generalize (((l.dele spN).app spN fs).sync spN).ren spN logN = l4 at P3 ⊢
  generalize (((l.dele spN).app spN fs).sync spN).renC spN logN = e4 at P3 ⊢
  generalize ((l.dele spN).app spN fs).sync spN = l3 at P2 P3 ⊢
  generalize ((l.dele spN).app spN fs).syncC spN = e3 at P2 ⊢
  generalize (l.dele spN).app spN fs = l2 at P1 P2 ⊢
  generalize (l.dele spN).appC spN fs = e2 at P1 ⊢
  generalize l.dele spN = l1 at P0 P1 ⊢
  generalize l.syncC spN = e1 at P0 ⊢
  by_cases h1 : e1 = 0 ∨ e1 = 4
  · rw [if_pos h1, if_pos h1]
    by_cases h2 : e2 = 0
    · subst h2
      rw [if_pos rfl, if_pos rfl]
      by_cases h3 : e3 = 0
      · subst h3
        rw [if_pos rfl, if_pos rfl]
        by_cases h4 : e4 = 0
        · subst h4
          rw [if_pos rfl]
          rcases h1 with rfl | rfl
          all_goals
            go_enter Tryz.func63, Tryz.ntmps63
            go_wp2_with (first
              | (go_at_call 84; (with_reducible refine P0.out.mono ?_); rintro e w0 ⟨rfl, hS0, hc0⟩; have c00 := hS0.at_.c0; unfold dp at c00)
              | (go_at_call 85; (with_reducible refine (P1.out _ hc0 hS0).mono ?_); rintro e w1 ⟨rfl, hS1, hc1⟩; have c01 := hS1.at_.c0; unfold dp at c01)
              | (go_at_call 86; (with_reducible refine (P2.out _ hc1 hS1).mono ?_); rintro e w2 ⟨rfl, hS2, hc2⟩; have c02 := hS2.at_.c0; unfold dp at c02)
              | (go_at_call 87; (with_reducible refine (P3.out _ hc2 hS2).mono ?_); rintro e w3 ⟨rfl, hS3, hc3⟩; have c13 := hS3.at_.c1; have f13 := hS3.at_.fr 1; have c33 := hS3.at_.c3; have f33 := hS3.at_.fr 3))
            go_ret
            refine ⟨rfl, ((hS3.upd 1 _ (s' := { s with size := fs.length }) rfl rfl).upd 3 _ (s' := { s with size := fs.length, torn := false }) rfl rfl).mono (fun k _ hk => More.wide (by simp [World.setCell]) k hk) (More.not H.out.apart H.out.at_.lt), ?_⟩
            exact ((hc3.mono fun _ _ e => .inr e).tr (Ch.setCell _ _ _ fun _ => .inl rfl)).tr (Ch.setCell _ _ _ fun _ => .inl rfl)
        · rw [if_neg h4]
          rcases h1 with rfl | rfl
          all_goals
            go_enter Tryz.func63, Tryz.ntmps63
            go_wp2_with (first
              | (go_at_call 84; (with_reducible refine P0.out.mono ?_); rintro e w0 ⟨rfl, hS0, hc0⟩; have c00 := hS0.at_.c0; unfold dp at c00)
              | (go_at_call 85; (with_reducible refine (P1.out _ hc0 hS0).mono ?_); rintro e w1 ⟨rfl, hS1, hc1⟩; have c01 := hS1.at_.c0; unfold dp at c01)
              | (go_at_call 86; (with_reducible refine (P2.out _ hc1 hS1).mono ?_); rintro e w2 ⟨rfl, hS2, hc2⟩; have c02 := hS2.at_.c0; unfold dp at c02)
              | (go_at_call 87; (with_reducible refine (P3.out _ hc2 hS2).mono ?_); rintro e w3 ⟨rfl, hS3, hc3⟩))
            go_ret
            exact ⟨rfl, hS3, hc3.mono fun _ _ e => .inr e⟩
      · rw [if_neg h3, if_neg h3, if_neg h3]
        rcases h1 with rfl | rfl
        all_goals
          go_enter Tryz.func63, Tryz.ntmps63
          go_wp2_with (first
            | (go_at_call 84; (with_reducible refine P0.out.mono ?_); rintro e w0 ⟨rfl, hS0, hc0⟩; have c00 := hS0.at_.c0; unfold dp at c00)
            | (go_at_call 85; (with_reducible refine (P1.out _ hc0 hS0).mono ?_); rintro e w1 ⟨rfl, hS1, hc1⟩; have c01 := hS1.at_.c0; unfold dp at c01)
            | (go_at_call 86; (with_reducible refine (P2.out _ hc1 hS1).mono ?_); rintro e w2 ⟨rfl, hS2, hc2⟩))
          go_ret
          exact ⟨rfl, hS2, hc2.mono fun _ _ e => .inr e⟩
    · rw [if_neg h2, if_neg h2, if_neg h2]
      rcases h1 with rfl | rfl
      all_goals
        go_enter Tryz.func63, Tryz.ntmps63
        go_wp2_with (first
          | (go_at_call 84; (with_reducible refine P0.out.mono ?_); rintro e w0 ⟨rfl, hS0, hc0⟩; have c00 := hS0.at_.c0; unfold dp at c00)
          | (go_at_call 85; (with_reducible refine (P1.out _ hc0 hS0).mono ?_); rintro e w1 ⟨rfl, hS1, hc1⟩))
        go_ret
        exact ⟨rfl, hS1, hc1.mono fun _ _ e => .inr e⟩
  · rw [if_neg h1, if_neg h1]
    have h1a : ¬ e1 = 0 := fun e => h1 (.inl e)
    have h1b : ¬ e1 = 4 := fun e => h1 (.inr e)
    rw [if_neg h1a]
    have hb1 : (e1 != 0) = true := by simpa using h1a
    have hb2 : (e1 != 4) = true := by simpa using h1b
    clear h1 h1a h1b
    go_enter Tryz.func63, Tryz.ntmps63
    go_wp2_with (go_at_call 84; (with_reducible refine P0.out.mono ?_); rintro e w0 ⟨rfl, hS0, hc0⟩)
    go_ret
    exact ⟨rfl, hS0, hc0.mono fun _ _ e => .inr e⟩
end Go.Proofs.YtogihpofkjpokaaGreatDoor
