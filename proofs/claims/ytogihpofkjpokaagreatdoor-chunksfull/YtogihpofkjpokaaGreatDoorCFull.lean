/- The walk of ChunksFull. -/
import Derived.Test.YtogihpofkjpokaaGreatDoorCP
namespace Go.Proofs.YtogihpofkjpokaaGreatDoor
open Go Go.RowKit Go.Maps
open D4 (put Asc Lg Dk dp More)
open F5 (txt txt_size data_txt RdT OwT)

theorem rest_sub {k : Tx} : ∀ (f m : Tx), (∀ p ∈ f, D4.look p.1 k = some p.2) → (f.map (·.1)).foldl (restStep k) (some m) = some (putAll m f)
  | [], m, _ => rfl
  | p :: f, m, h => by
    rw [List.map_cons, List.foldl_cons]
    have e : restStep k (some m) p.1 = some (put p.1 p.2 m) := by unfold restStep; rw [h p (by simp)]
    rw [e, rest_sub f _ fun q hq => h q (by simp [hq])]
    rfl
theorem rest_all {k : Tx} (h : Asc k) : restOf k (k.map (·.1)) = some k := by
  unfold restOf
  rw [rest_sub k [] fun p hp => D4.look_of_mem h hp, putAll_nil h]
theorem Up.asc {l : Lg} {a : Ab} {B N : Nat} (h : Up l a B N) : Asc a.kept := by
  obtain ⟨lg, sp, h⟩ := h
  exact h.rq.1
/-- A Put and a Commit of ChunksFull. -/
theorem full_com {l : Lg} {a : Ab} {B N : Nat} (h : Up l a B N) (hf : l.lim = false) (x : List UInt8) (hx : x.length ≤ 300) : ∃ cc a2 l2, ((cc = 0 ∧ a2.root = x ++ [114]) ∨ (cc = 2 ∧ a2.root = a.root ∧ a2.kept.length = a.kept.length)) ∧ (a.putF x).comC l (x ++ [114]) = cc ∧ (a.putF x).comA l (x ++ [114]) = a2 ∧ (a.putF x).comL l (x ++ [114]) = l2 ∧ l2.lim = false ∧ Up l2 a2 (B + 627) (N + 1) ∧ a2.fresh = [] := by
  have h1 := h.put x (by omega)
  have hk : (a.putF x).kept = a.kept ∧ (a.putF x).root = a.root := by unfold Ab.putF; split <;> exact ⟨rfl, rfl⟩
  have hr : (x ++ [114]).length = x.length + 1 := by simp
  obtain ⟨_, hl, ⟨e, e2, hU⟩ | ⟨e, e2, hU, _⟩⟩ := h1.commit_free hf (x ++ [114]) (by omega)
  · refine ⟨0, (a.putF x).done (x ++ [114]), (a.putF x).comL l (x ++ [114]), .inl ⟨rfl, ?_⟩, e, e2, rfl, hl, hU.mono (by omega) (Nat.le_refl _), ?_⟩
    · unfold Ab.done; split <;> rfl
    · unfold Ab.done; split <;> rfl
  · exact ⟨2, (a.putF x).drop, (a.putF x).comL l (x ++ [114]), .inr ⟨rfl, hk.2, by show (a.putF x).kept.length = _; rw [hk.1]⟩, e, e2, rfl, hl, hU.mono (by omega) (Nat.le_refl _), rfl⟩
theorem full_col {l : Lg} {a : Ab} {B N : Nat} (h : Up l a B N) (hf : l.lim = false) : ∃ c2 a3 l3, (c2 = 0 ∨ c2 = 2) ∧ a.colC l a.kept = c2 ∧ a.colA l a.kept = a3 ∧ a.colL l a.kept = l3 ∧ l3.lim = false ∧ Up l3 a3 B N ∧ a3.root = a.root ∧ a3.kept = a.kept := by
  obtain ⟨_, hl, ⟨e, hU⟩ | ⟨e, hU⟩⟩ := h.collect_free hf h.asc fun p hp => hp
  · exact ⟨0, a.less a.kept, _, .inl rfl, e, by unfold Ab.colA; rw [if_pos e], rfl, hl, hU, rfl, rfl⟩
  · exact ⟨2, a, _, .inr rfl, e, by unfold Ab.colA; rw [if_neg (by rw [e]; decide), if_neg (by rw [e]; decide)], rfl, hl, hU, rfl, rfl⟩
theorem collectC {w : World} {sb d : Nat} {a : Ab} {l : Lg} {G : Nat → Prop} (h : Str w sb d a l G) (hcl : ∀ k, w.heap.size ≤ k → G k) {B N : Nat} (hU : Up l a B N) (hN : N ≤ 1000) (hB : B ≤ 1000000) (av : Option Addr) (c : Nat) (hR : RdT w av (a.kept.map (·.1))) :
    Calls Tryz.prog 17 #[.pointer (some ⟨sb, 0, none⟩), .slice av a.kept.length c] w fun e w' => e = .returned (.int .i64 (a.colC l a.kept)) ∧ Str w' sb d (a.colA l a.kept) (a.colL l a.kept) G ∧ Ch G w w' := by
  obtain ⟨h1, h2, _, _, h3, h4, h5, _⟩ := hU.fits hN hB
  obtain ⟨_, hd, hl⟩ := hU.down
  have e : (a.kept.map (·.1)).length = a.kept.length := List.length_map _
  have := collect_any h hd av c (a.kept.map (·.1)) hR (fun p hp => by obtain ⟨q, hq, rfl⟩ := List.mem_map.1 hp; exact (h1.each q hq).1) (by rw [e]; omega) h3 h4 (by omega)
  rw [e] at this
  refine this.mono ?_
  rintro e w' ⟨hP, hc⟩
  obtain ⟨rfl, hS⟩ := hP.2 _ (rest_all hU.asc)
  exact ⟨rfl, hS.cl hcl h.g0, hc⟩

/-- The rounds of ChunksFull. -/
structure FRI (w wr : World) (sb d : Nat) (a : Ab) (l : Lg) (i : Nat) : Prop where
  str : Str wr sb d a l fun k => w.heap.size ≤ k
  up : Up l a (13 + 627 * i) i
  lim : l.lim = false
  below : Below w.heap.size w wr
theorem FRI.ch {w wr w1 : World} {sb d : Nat} {a : Ab} {l : Lg} {i : Nat} (h : FRI w wr sb d a l i) (hc : Ch (fun k => w.heap.size ≤ k) wr w1) : Below w.heap.size w w1 := h.below.trans (hc.below h.below.size fun k hk e => by omega)
set_option maxRecDepth 100000 in
set_option maxHeartbeats 16000000 in
theorem chunksFull_any {w : World} (hK : S1.KR w) (a0 : Option Addr) (c : Nat) (xs : List (List UInt8)) (hR : RdT w a0 xs) (hx : ∀ x ∈ xs, x.length ≤ 9223372036854775807) (hxl : xs.length ≤ maxLen) (room : Int) :
    Calls Tryz.prog 5 #[.slice a0 xs.length c, .int .i64 room] w fun e w' => e = .returned (.bool true) ∧ Below w.heap.size w w' := by
  have P6 := Lib.hid (awake_any hK)
  have hpos := hK.pos
  unfold maxLen at hxl
  by_cases h1 : 20 < xs.length
  · have h1' : (20 : Int) < (xs.length : Int) := by omega
    clear hR hx hK
    go_enter Tryz.func5, Tryz.ntmps5
    go_wp2_with (go_at_call 6; (with_reducible refine P6.out.mono ?_); rintro e w1 ⟨rfl, hb1⟩)
    go_ret
    exact ⟨rfl, hb1⟩
  have h1' : (xs.length : Int) ≤ 20 := by omega
  by_cases h2 : room < 0
  · clear hR hx hK
    go_enter Tryz.func5, Tryz.ntmps5
    go_wp2_with (go_at_call 6; (with_reducible refine P6.out.mono ?_); rintro e w1 ⟨rfl, hb1⟩)
    go_ret
    exact ⟨rfl, hb1⟩
  have h2' : 0 ≤ room := by omega
  by_cases h3 : 3000 < room
  · clear hR hx hK
    go_enter Tryz.func5, Tryz.ntmps5
    go_wp2_with (go_at_call 6; (with_reducible refine P6.out.mono ?_); rintro e w1 ⟨rfl, hb1⟩)
    go_ret
    exact ⟨rfl, hb1⟩
  have h3' : room ≤ 3000 := by omega
  have P9 : Hid (∀ W, Below w.heap.size w W → Calls Tryz.prog 9 #[.int .i64 100000] W fun e w' => e = .returned (.tuple #[.pointer (some ⟨W.heap.size, 0, none⟩), .int .i64 0]) ∧ Dk w' W.heap.size ⟨100000, false, false, 0, []⟩ (fun k => w.heap.size ≤ k) ∧ Below w.heap.size w w') := Lib.hid fun W hW => by
    refine (D4.new_up W 100000 (by decide) (by decide)).mono ?_
    rintro e w' ⟨rfl, hD, hb, _⟩
    exact ⟨rfl, D4.Dk.mono hD fun k _ hk => Nat.le_trans hW.size hk, hW.trans (hb.mono hW.size)⟩
  have P10 : Hid (∀ W d, Dk W d ⟨100000, false, false, 0, []⟩ (fun k => w.heap.size ≤ k) → Below w.heap.size w W → Calls Tryz.prog 10 #[.pointer (some ⟨d, 0, none⟩)] W fun e w' => ∃ sb, e = .returned (.tuple #[.pointer (some ⟨sb, 0, none⟩), .int .i64 0]) ∧ FRI w w' sb d (opened none 0 false [] []) ⟨100000, false, false, 0, []⟩ 0) := Lib.hid fun W d hD hW => by
    refine (openC hD (fun k hk => Nat.le_trans hW.size hk) (up_new 100000) LogAt.nil (by decide) (hK.step hW) (by omega)).mono ?_
    rintro e w' ⟨sb, rfl, hS, hb⟩
    exact ⟨sb, rfl, hS, ⟨none, none, up_new 100000⟩, rfl, hW.trans (hb.mono hW.size)⟩
  have HR := Lib.hid (And.intro hR (And.intro hx hpos))
  clear hR hx hK hpos h1 h2 h3 hxl
  go_enter Tryz.func5, Tryz.ntmps5
  go_wp2_with (first
    | (go_at_call 6; (with_reducible refine P6.out.mono ?_); rintro e w1 ⟨rfl, hb1⟩)
    | (go_at_call 9; (with_reducible refine (P9.out _ hb1).mono ?_); rintro e w2 ⟨rfl, hD2, hb2⟩)
    | (go_at_call 10; (with_reducible refine (P10.out _ _ hD2 hb2).mono ?_); rintro e w3 ⟨sb0, rfl, hI0⟩))
  have H0 := Lib.hid hI0
  clear hD2 hb2 hb1 hI0 P6 P9 P10
  generalize w1.heap.size = d at H0 ⊢
  go_loopw [7, 8, 9, 10, 12, 13, 14, 15, 16, 43] (fun s _ rt n _ _ _ _ _ i wr => ∃ (ii sb : Nat) (a : Ab) (l : Lg), i = .int .i64 (ii : Int) ∧ ii ≤ xs.length ∧ s = .pointer (some ⟨sb, 0, none⟩) ∧ rt = .string (txt a.root) ∧ n = .int .i64 (a.kept.length : Int) ∧ Hid (FRI w wr sb d a l ii)) (fun _ _ _ _ _ _ _ _ _ i _ => xs.length - (intOf i).toNat)
  case atStart => exact ⟨0, sb0, _, _, rfl, Nat.zero_le _, rfl, rfl, rfl, H0⟩
  case round =>
    obtain ⟨ii, sb, a, l, rfl, hi, rfl, rfl, rfl, HI⟩ := hrel
    clear H0
    by_cases hlt : ii < xs.length
    · have hlt' : (ii : Int) < (xs.length : Int) := by omega
      have hi0 : (0 : Int) ≤ (ii : Int) := by omega
      have hi20 : ii < 20 := by omega
      obtain ⟨b, off, rfl, hc1⟩ := (HR.out.1.new HI.out.below) ii hlt
      rw [F5.getD_at hlt] at hc1
      have hxx := HR.out.2.1 _ (List.getElem_mem hlt)
      generalize xs[ii] = x at hc1 hxx
      have hzx := txt_size x
      by_cases h300 : 300 < x.length
      · have h300' : (300 : Int) < (x.length : Int) := by omega
        generalize txt x = tx at hc1 hzx
        go_wp2
        go_ret
        exact ⟨rfl, HI.out.below⟩
      have h300' : (x.length : Int) ≤ 300 := by omega
      have hpos := HR.out.2.2
      have hG0 : ¬ (w.heap.size ≤ 0) := by omega
      have hfl : (x ++ [114]).length ≤ 1000 := by simp; omega
      -- the disk's room
      obtain ⟨l1, hl1⟩ : ∃ l1 : Lg, l1 = { l with room := min (max room 0) 1073741824 } := ⟨_, rfl⟩
      have hU1 : Up l1 a (13 + 627 * ii) ii := by rw [hl1]; exact HI.out.up.disk rfl rfl
      have hf1 : l1.lim = false := by rw [hl1]; exact HI.out.lim
      have PR1 : Hid (Calls Tryz.prog 16 #[.pointer (some ⟨d, 0, none⟩), .int .i64 room] wr fun e w' => e = .returned (.tuple #[]) ∧ Str w' sb d a l1 (fun k => w.heap.size ≤ k) ∧ Ch (fun k => w.heap.size ≤ k) wr w') := Lib.hid (by
        rw [hl1]
        refine (roomC HI.out.str room ⟨by omega, by omega⟩).mono ?_
        rintro e w' ⟨rfl, hS, hc⟩
        exact ⟨rfl, hS.cl (fun k hk => Nat.le_trans HI.out.below.size hk) hG0, hc⟩)
      obtain ⟨cc, a2, l2, hcc, hcC, hcA, hcL, hf2, hU2, -⟩ := full_com hU1 hf1 x (by omega)
      obtain ⟨c2, a3, l3, hc2, hdC, hdA, hdL, hf3, hU3, hr3, hk3⟩ := full_col hU2 hf2
      obtain ⟨l4, hl4⟩ : ∃ l4 : Lg, l4 = { l3 with room := min (max 100000 0) 1073741824 } := ⟨_, rfl⟩
      have hU4 : Up l4 a3 (13 + 627 * ii + 627) (ii + 1) := by rw [hl4]; exact hU3.disk rfl rfl
      obtain ⟨lg, sp, r, t, hL5, hU5⟩ := hU4.reopen []
      have PP : Hid (∀ W, Str W sb d a l1 (fun k => w.heap.size ≤ k) → w.heap.size ≤ W.heap.size → Calls Tryz.prog 11 #[.pointer (some ⟨sb, 0, none⟩), .string (txt x)] W fun e w' => e = .returned (.tuple #[.string (txt (sha x)), .int .i64 0]) ∧ Str w' sb d (a.putF x) l1 (fun k => w.heap.size ≤ k) ∧ Ch (fun k => w.heap.size ≤ k) W w') := Lib.hid fun W hS hz => putC hS (fun k hk => Nat.le_trans hz hk) hU1 (by omega) x (by omega)
      have PC : Hid (∀ W, Str W sb d (a.putF x) l1 (fun k => w.heap.size ≤ k) → w.heap.size ≤ W.heap.size → Calls Tryz.prog 12 #[.pointer (some ⟨sb, 0, none⟩), .string (txt (x ++ [114]))] W fun e w' => e = .returned (.int .i64 cc) ∧ Str w' sb d a2 l2 (fun k => w.heap.size ≤ k) ∧ Ch (fun k => w.heap.size ≤ k) W w') := Lib.hid fun W hS hz => by
        have := commitC hS (fun k hk => Nat.le_trans hz hk) (hU1.put x (by omega)) (by omega) (by omega) (x ++ [114]) hfl
        rw [hcC, hcA, hcL] at this
        exact this
      have hkl2 := (hU2.fits (by omega) (by omega)).2.2.2.2.2.2.1
      obtain ⟨n2, hn2⟩ : ∃ n2, a2.kept.length = n2 := ⟨_, rfl⟩
      obtain ⟨tr, htr⟩ : ∃ tr, txt a2.root = tr := ⟨_, rfl⟩
      have PN2 : Hid (∀ W, Str W sb d a2 l2 (fun k => w.heap.size ≤ k) → Calls Tryz.prog 13 #[.pointer (some ⟨sb, 0, none⟩)] W fun e w' => ∃ v c, e = .returned (.slice v n2 c) ∧ RdT w' v (a2.kept.map (·.1)) ∧ Below W.heap.size W w') := Lib.hid fun W hS => by rw [← hn2]; exact printsC hS (by omega)
      have PCo : Hid (∀ W v c, Str W sb d a2 l2 (fun k => w.heap.size ≤ k) → w.heap.size ≤ W.heap.size → RdT W v (a2.kept.map (·.1)) → Calls Tryz.prog 17 #[.pointer (some ⟨sb, 0, none⟩), .slice v n2 c] W fun e w' => e = .returned (.int .i64 c2) ∧ Str w' sb d a3 l3 (fun k => w.heap.size ≤ k) ∧ Ch (fun k => w.heap.size ≤ k) W w') := Lib.hid fun W v c hS hz hR => by
        have := collectC hS (fun k hk => Nat.le_trans hz hk) hU2 (by omega) (by omega) v c hR
        rw [hdC, hdA, hdL, hn2] at this
        exact this
      have PT3 : Hid (∀ W, Str W sb d a3 l3 (fun k => w.heap.size ≤ k) → Calls Tryz.prog 14 #[.pointer (some ⟨sb, 0, none⟩)] W fun e w' => e = .returned (.string tr) ∧ w' = W) := Lib.hid fun W hS => by rw [← htr, ← hr3]; exact sroot_any hS
      have PN3 : Hid (∀ W, Str W sb d a3 l3 (fun k => w.heap.size ≤ k) → Calls Tryz.prog 13 #[.pointer (some ⟨sb, 0, none⟩)] W fun e w' => ∃ v c, e = .returned (.slice v n2 c) ∧ RdT w' v (a3.kept.map (·.1)) ∧ Below W.heap.size W w') := Lib.hid fun W hS => by rw [← hn2, ← hk3]; exact printsC hS (by rw [hk3]; omega)
      have PR2 : Hid (∀ W, Str W sb d a3 l3 (fun k => w.heap.size ≤ k) → w.heap.size ≤ W.heap.size → Calls Tryz.prog 16 #[.pointer (some ⟨d, 0, none⟩), .int .i64 100000] W fun e w' => e = .returned (.tuple #[]) ∧ Str w' sb d a3 l4 (fun k => w.heap.size ≤ k) ∧ Ch (fun k => w.heap.size ≤ k) W w') := Lib.hid fun W hS hz => by
        rw [hl4]
        refine (roomC hS 100000 (by decide)).mono ?_
        rintro e w' ⟨rfl, hS, hc⟩
        exact ⟨rfl, hS.cl (fun k hk => Nat.le_trans hz hk) hG0, hc⟩
      have PF : Hid (∀ W, Str W sb d a3 l4 (fun k => w.heap.size ≤ k) → Calls Tryz.prog 15 #[.pointer (some ⟨d, 0, none⟩), .slice none 0 0] W fun e w' => e = .returned (.tuple #[]) ∧ Dk w' d (l4.fall []) (fun k => w.heap.size ≤ k) ∧ S1.KR w' ∧ Ch (fun k => w.heap.size ≤ k) W w') := Lib.hid fun W hS => fallC hS hU4.down.2.2 none 0 [] (fun i hi => absurd hi (by simp)) (fun ad e => by cases e)
      have PO : Hid (∀ W, Dk W d (l4.fall []) (fun k => w.heap.size ≤ k) → S1.KR W → w.heap.size ≤ W.heap.size → Calls Tryz.prog 10 #[.pointer (some ⟨d, 0, none⟩)] W fun e w' => ∃ sb, e = .returned (.tuple #[.pointer (some ⟨sb, 0, none⟩), .int .i64 0]) ∧ Str w' sb d (opened lg r t a3.root a3.kept) (l4.fall []) (fun k => w.heap.size ≤ k) ∧ Below W.heap.size W w') := Lib.hid fun W hD hk hz => openC hD (fun k hk => Nat.le_trans hz hk) hU5 hL5 (by omega) hk hG0
      have PT5 : Hid (∀ W sb, Str W sb d (opened lg r t a3.root a3.kept) (l4.fall []) (fun k => w.heap.size ≤ k) → Calls Tryz.prog 14 #[.pointer (some ⟨sb, 0, none⟩)] W fun e w' => e = .returned (.string tr) ∧ w' = W) := Lib.hid fun W sb hS => by
        have := sroot_any hS
        rw [show (opened lg r t a3.root a3.kept).root = a2.root from hr3, htr] at this
        exact this
      have PN5 : Hid (∀ W sb, Str W sb d (opened lg r t a3.root a3.kept) (l4.fall []) (fun k => w.heap.size ≤ k) → Calls Tryz.prog 13 #[.pointer (some ⟨sb, 0, none⟩)] W fun e w' => ∃ v c, e = .returned (.slice v n2 c) ∧ RdT w' v ((opened lg r t a3.root a3.kept).kept.map (·.1)) ∧ Below W.heap.size W w') := Lib.hid fun W sb hS => by
        have e : (opened lg r t a3.root a3.kept).kept.length = n2 := by show a3.kept.length = n2; rw [hk3, hn2]
        have := printsC hS (by rw [e]; omega)
        rw [e] at this
        exact this
      have HE : Hid (∀ W sb, Str W sb d (opened lg r t a3.root a3.kept) (l4.fall []) (fun k => w.heap.size ≤ k) → Below w.heap.size w W → FRI w W sb d (opened lg r t a3.root a3.kept) (l4.fall []) (ii + 1)) := Lib.hid fun W sb hS hb => ⟨hS, by have := (⟨lg, sp, hU5⟩ : Up _ _ _ _); rw [show 13 + 627 * (ii + 1) = 13 + 627 * ii + 627 by omega]; exact this, rfl, hb⟩
      have HQ : Hid (txt (opened lg r t a3.root a3.kept).root = tr ∧ (opened lg r t a3.root a3.kept).kept.length = n2) := Lib.hid ⟨by rw [← htr]; show txt a3.root = _; rw [hr3], by show a3.kept.length = n2; rw [hk3, hn2]⟩
      have hadd : binOp .add 9 (.string (txt x)) (.string ⟨#[114]⟩) = pure (.string (txt (x ++ [114]))) := F5.cat x [114] (by simp; omega)
      have hcc' : (cc = 0 ∧ txt (x ++ [114]) = tr) ∨ (cc = 2 ∧ txt a.root = tr ∧ a.kept.length = n2) := by
        rcases hcc with ⟨h1, h2⟩ | ⟨h1, h2, h3⟩
        · exact .inl ⟨h1, by rw [← htr, h2]⟩
        · exact .inr ⟨h1, by rw [← htr, h2], by rw [← hn2, h3]⟩
      have HB := Lib.hid (And.intro HI.out.below hlt)
      clear hU1 hf1 hl1 hcC hcA hcL hf2 hU2 hdC hdA hdL hf3 hU3 hr3 hk3 hl4 hU4 hL5 hU5 hkl2 hn2 htr hcc h300 hxx hG0 hfl HI hlt
      generalize opened lg r t a3.root a3.kept = a5 at *
      generalize l4.fall [] = l5 at *
      generalize txt (sha x) = ts at *
      generalize txt (x ++ [114]) = txr at *
      generalize txt x = tx at *
      rcases hcc' with ⟨rfl, rfl⟩ | ⟨rfl, h4, h5⟩
      · rcases hc2 with rfl | rfl
        all_goals
          go_wp2_with (go_at_call 16; (with_reducible refine PR1.out.mono ?_); rintro e w4 ⟨rfl, hS4, hc4⟩; have hB4 : Below w.heap.size w w4 := HB.out.1.trans (hc4.below HB.out.1.size fun k hk e => by omega))
          go_wp2_with (go_at_call 11; (with_reducible refine (PP.out _ hS4 hB4.size).mono ?_); rintro e w5 ⟨rfl, hS5, hc5⟩; have hB5 := hB4.trans (hc5.below hB4.size fun k hk e => by omega))
          go_wp2_with (go_at_call 12; (with_reducible refine (PC.out _ hS5 hB5.size).mono ?_); rintro e w6 ⟨rfl, hS6, hc6⟩; have hB6 := hB5.trans (hc6.below hB5.size fun k hk e => by omega))
          go_wp2_with (go_at_call 13; (with_reducible refine (PN2.out _ hS6).mono ?_); rintro e w7 ⟨v7, c7, rfl, hR7, hb7⟩; have hB7 := hB6.trans (hb7.mono hB6.size); have hS7 := hS6.new hb7)
          go_wp2_with (go_at_call 13; (with_reducible refine (PN2.out _ hS7).mono ?_); rintro e w8 ⟨v8, c8, rfl, hR8, hb8⟩; have hB8 := hB7.trans (hb8.mono hB7.size); have hS8 := hS7.new hb8)
          go_wp2_with (go_at_call 17; (with_reducible refine (PCo.out _ _ _ hS8 hB8.size hR8).mono ?_); rintro e w9 ⟨rfl, hS9, hc9⟩; have hB9 := hB8.trans (hc9.below hB8.size fun k hk e => by omega))
          go_wp2_with (go_at_call 14; (with_reducible refine (PT3.out _ hS9).mono ?_); rintro e w9b ⟨rfl, hw9b⟩; subst w9b)
          go_wp2_with (go_at_call 13; (with_reducible refine (PN3.out _ hS9).mono ?_); rintro e w10 ⟨v10, c10, rfl, hR10, hb10⟩; have hB10 := hB9.trans (hb10.mono hB9.size); have hS10 := hS9.new hb10)
          go_wp2_with (go_at_call 16; (with_reducible refine (PR2.out _ hS10 hB10.size).mono ?_); rintro e w11 ⟨rfl, hS11, hc11⟩; have hB11 := hB10.trans (hc11.below hB10.size fun k hk e => by omega))
          go_wp2_with (go_at_call 15; (with_reducible refine (PF.out _ hS11).mono ?_); rintro e w12 ⟨rfl, hD12, hk12, hc12⟩; have hB12 := hB11.trans (hc12.below hB11.size fun k hk e => by omega))
          go_wp2_with (go_at_call 10; (with_reducible refine (PO.out _ hD12 hk12 hB12.size).mono ?_); rintro e w13 ⟨sb5, rfl, hS13, hb13⟩; have hB13 := hB12.trans (hb13.mono hB12.size))
          go_wp2_with (go_at_call 14; (with_reducible refine (PT5.out _ _ hS13).mono ?_); rintro e w13b ⟨rfl, hw13b⟩; subst w13b)
          go_wp2_with (go_at_call 13; (with_reducible refine (PN5.out _ _ hS13).mono ?_); rintro e w14 ⟨v14, c14, rfl, hR14, hb14⟩)
          have hB14 := hB13.trans (hb14.mono hB13.size)
          have hF := Lib.hid (HE.out _ _ (hS13.new hb14) hB14)
          have hlt2 := HB.out.2
          go_roundw
          case rel => exact ⟨ii + 1, sb5, a5, l5, by go_num, by omega, rfl, (by rw [HQ.out.1]), (by rw [HQ.out.2]), hF⟩
          case measure => simp [intOf]; omega
      · rw [h4, h5]
        rcases hc2 with rfl | rfl
        all_goals
          go_wp2_with (go_at_call 16; (with_reducible refine PR1.out.mono ?_); rintro e w4 ⟨rfl, hS4, hc4⟩; have hB4 : Below w.heap.size w w4 := HB.out.1.trans (hc4.below HB.out.1.size fun k hk e => by omega))
          go_wp2_with (go_at_call 11; (with_reducible refine (PP.out _ hS4 hB4.size).mono ?_); rintro e w5 ⟨rfl, hS5, hc5⟩; have hB5 := hB4.trans (hc5.below hB4.size fun k hk e => by omega))
          go_wp2_with (go_at_call 12; (with_reducible refine (PC.out _ hS5 hB5.size).mono ?_); rintro e w6 ⟨rfl, hS6, hc6⟩; have hB6 := hB5.trans (hc6.below hB5.size fun k hk e => by omega))
          have hS7 := hS6
          have hB7 := hB6
          go_wp2_with (go_at_call 13; (with_reducible refine (PN2.out _ hS7).mono ?_); rintro e w8 ⟨v8, c8, rfl, hR8, hb8⟩; have hB8 := hB7.trans (hb8.mono hB7.size); have hS8 := hS7.new hb8)
          go_wp2_with (go_at_call 17; (with_reducible refine (PCo.out _ _ _ hS8 hB8.size hR8).mono ?_); rintro e w9 ⟨rfl, hS9, hc9⟩; have hB9 := hB8.trans (hc9.below hB8.size fun k hk e => by omega))
          go_wp2_with (go_at_call 14; (with_reducible refine (PT3.out _ hS9).mono ?_); rintro e w9b ⟨rfl, hw9b⟩; subst w9b)
          go_wp2_with (go_at_call 13; (with_reducible refine (PN3.out _ hS9).mono ?_); rintro e w10 ⟨v10, c10, rfl, hR10, hb10⟩; have hB10 := hB9.trans (hb10.mono hB9.size); have hS10 := hS9.new hb10)
          go_wp2_with (go_at_call 16; (with_reducible refine (PR2.out _ hS10 hB10.size).mono ?_); rintro e w11 ⟨rfl, hS11, hc11⟩; have hB11 := hB10.trans (hc11.below hB10.size fun k hk e => by omega))
          go_wp2_with (go_at_call 15; (with_reducible refine (PF.out _ hS11).mono ?_); rintro e w12 ⟨rfl, hD12, hk12, hc12⟩; have hB12 := hB11.trans (hc12.below hB11.size fun k hk e => by omega))
          go_wp2_with (go_at_call 10; (with_reducible refine (PO.out _ hD12 hk12 hB12.size).mono ?_); rintro e w13 ⟨sb5, rfl, hS13, hb13⟩; have hB13 := hB12.trans (hb13.mono hB12.size))
          go_wp2_with (go_at_call 14; (with_reducible refine (PT5.out _ _ hS13).mono ?_); rintro e w13b ⟨rfl, hw13b⟩; subst w13b)
          go_wp2_with (go_at_call 13; (with_reducible refine (PN5.out _ _ hS13).mono ?_); rintro e w14 ⟨v14, c14, rfl, hR14, hb14⟩)
          have hB14 := hB13.trans (hb14.mono hB13.size)
          have hF := Lib.hid (HE.out _ _ (hS13.new hb14) hB14)
          have hlt2 := HB.out.2
          go_roundw
          case rel => exact ⟨ii + 1, sb5, a5, l5, by go_num, by omega, rfl, (by rw [HQ.out.1]), (by rw [HQ.out.2]), hF⟩
          case measure => simp [intOf]; omega
    · have hlt' : (xs.length : Int) ≤ (ii : Int) := by omega
      go_wp2
      go_ret
      exact ⟨rfl, HI.out.below⟩
end Go.Proofs.YtogihpofkjpokaaGreatDoor
