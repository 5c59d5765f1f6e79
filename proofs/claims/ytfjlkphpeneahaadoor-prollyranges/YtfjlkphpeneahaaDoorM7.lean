/- The run through the nodes of level 0: leaves and what it makes. The run through the pairs of nodes of level 0. All of a root as a list: the walks of leaves, pairsOf, All, orEmpty, List. append of a pair: whose block the slice lies in then. The list of a run. -/
import Derived.Test.YtfjlkphpeneahaaDoorM11
import Derived.Test.YtfjlkphpeneahaaDoorTBase
import Derived.Laws.OwnMore
namespace Go.Proofs.YtfjlkphpeneahaaDoor
open Go Go.RowKit Go.Shelf
attribute [local go_sem] Oper.semAt_some

/-- The nodes of level 0 that are told of a root. -/
def leavesP (lx : Tx) (root key : Bs) : List (List It) := match rootP lx root with
  | some p => (walkG lx key p.1 p.2).1
  | none => []
def leavesRun (b : Nat) : Value := .func (.func 78) #[] #[.pointer (some ⟨b, 0, none⟩), .pointer (some ⟨b + 1, 0, none⟩), .pointer (some ⟨b + 2, 0, none⟩)]
def LeavesK (b h : Nat) (mm : Option Nat) (k : Nat) : Prop := k = b ∨ k = b + 1 ∨ k = b + 2 ∨ KH h mm k
def LeavesG (b h : Nat) (mm : Option Nat) (lx : Tx) (root key : Bs) (V : World) : Prop := Boxed V b 95 (srcV h) ∧ Boxed V (b + 1) 9 (.string (txt root)) ∧ Boxed V (b + 2) 9 (.string (txt key)) ∧ HpM h mm lx V
theorem LeavesG.stab (b h : Nat) (mm : Option Nat) (lx : Tx) (root key : Bs) : Stab (fun k => ¬ LeavesK b h mm k) (LeavesG b h mm lx root key) := fun A B H hc =>
  ⟨hc.boxed H.1 (fun e => e (.inl rfl)), hc.boxed H.2.1 (fun e => e (.inr (.inl rfl))), hc.boxed H.2.2.1 (fun e => e (.inr (.inr (.inl rfl)))), HpM.stab h mm lx A B H.2.2.2 (hc.mono fun _ _ e hk => e (.inr (.inr (.inr hk))))⟩
set_option maxRecDepth 100000 in
set_option maxHeartbeats 4000000 in
theorem leaves_iter (b h : Nat) (mm : Option Nat) {lx : Tx} (hs : Small lx) (root key : Bs) (hroot : root.length ≤ 1000000) :
    IterR Tryd.prog 78 #[.pointer (some ⟨b, 0, none⟩), .pointer (some ⟨b + 1, 0, none⟩), .pointer (some ⟨b + 2, 0, none⟩)] EncL (LeavesK b h mm) (fun _ => False) (leavesP lx root key) (LeavesG b h mm lx root key) (fun _ => LeavesG b h mm lx root key) := by
  intro l J Jx W n hKW hTW hJ hJx hY h0 hG
  have hWC : WC l J Jx W (LeavesK b h mm) (leavesP lx root key) := ⟨hKW, fun R pre hR => (hJ R pre hR).mono fun k hk => .inr hk, fun R pre hR => (hJx R pre hR).mono fun k hk => .inr hk, hY⟩
  have P51 := Lib.hid (getNode_any hG.2.2.2.hp hs root hroot)
  have HW := Lib.hid (fun lev => walk_in hWC (h := h) (mm := mm) (fun k hk => .inr (.inr (.inr hk))) hs key lev)
  have cs := hG.1.cell
  have cr := hG.2.1.cell
  have ck := hG.2.2.1.cell
  have HG := Lib.hid (And.intro hG (And.intro h0 (And.intro hJ hJx)))
  have HL : Hid (leavesP lx root key = match rootP lx root with | some p => (walkG lx key p.1 p.2).1 | none => []) := Lib.hid rfl
  have hrt := fun k m (h : rootP lx root = some (k, m)) => rootP_some h
  unfold srcV at P51 cs
  clear hJ hJx hY h0 hG hWC hTW hKW
  refine callsIn_of_wp Tryd.func78 rfl trivial ?_ rfl
  simp only [Tryd.ntmps78, List.size_toArray, List.length_cons, List.length_nil, Nat.reduceAdd, Nat.reduceSub, Array.replicate_succ, Array.replicate_zero, List.push_toArray, List.append_toArray, List.nil_append, List.cons_append]
  cases hq : rootP lx root with
  | none =>
    rw [hq] at P51 HL
    have PB : Hid (Calls Tryd.prog 51 #[.iface 40 (.pointer (some ⟨h, 0, none⟩)), .string (txt root)] W fun e w' => e = .returned (.tuple #[.agg #[.int .i64 0, .slice none 0 0], .bool false]) ∧ Below W.heap.size W w') := P51
    have HN : Hid (leavesP lx root key = []) := Lib.hid HL.out
    clear P51 HL hq hrt
    gi_wp2
    refine ⟨trivial, (fun h => by cases h), ?_⟩
    refine (callsIn_wide.2 PB.out).mono ?_
    rintro e w1 ⟨rfl, hb1⟩
    have HB : Hid (Below W.heap.size W (w1.alloc (.cells #[.int .i64 0, .slice none 0 0] 102))) := Lib.hid (hb1.alloc hb1.size _)
    clear hb1 cs cr ck
    gi_wp2
    go_end0
    rw [HN.out]
    exact ⟨⟨_, rfl⟩, fun _ => False, fun k hk => hk.elim, HB.out.size, .inl ⟨HG.out.2.1 _ (Ch.of_new HB.out), LeavesG.stab b h mm lx root key _ _ HG.out.1 (Ch.of_new HB.out)⟩⟩
  | some p =>
    obtain ⟨lev, m⟩ := p
    rw [hq] at P51 HL
    obtain ⟨s1, s2, s3⟩ := hrt lev m hq
    have PB : Hid (Calls Tryd.prog 51 #[.iface 40 (.pointer (some ⟨h, 0, none⟩)), .string (txt root)] W fun e w' => ∃ (a : Option Addr) (c : Nat), e = .returned (.tuple #[.agg #[.int .i64 (lev : Int), .slice a m.length c], .bool true]) ∧ (RdP w' a m ∧ m.length ≤ c ∧ ∀ ad, a = some ad → W.heap.size ≤ ad.block) ∧ Below W.heap.size W w') := Lib.hid (P51.out.mono (by
      rintro e w' ⟨he, hb⟩
      obtain ⟨a, c, he, h1, h2, h3⟩ := he
      exact ⟨a, c, he, ⟨h1, h2, h3⟩, hb⟩))
    have HN : Hid (leavesP lx root key = (walkG lx key lev m).1) := Lib.hid HL.out
    have HS := Lib.hid (And.intro s1 (And.intro s2 s3))
    clear P51 HL hq hrt s1 s2 s3
    gi_wp2
    refine ⟨trivial, (fun h => by cases h), ?_⟩
    refine (callsIn_wide.2 PB.out).mono ?_
    rintro e w1 ⟨a, c, rfl, ⟨hr1, hc1, hf1⟩, hb1⟩
    have hb2 : Below W.heap.size W (w1.alloc (.cells #[.int .i64 (lev : Int), .slice a m.length c] 102)) := hb1.alloc hb1.size _
    have hn2 : Below w1.heap.size w1 (w1.alloc (.cells #[.int .i64 (lev : Int), .slice a m.length c] 102)) := (Below.refl _ _).alloc (Nat.le_refl _) _
    have hG2 := LeavesG.stab b h mm lx root key _ _ HG.out.1 (Ch.of_new hb2)
    have cs2 := hG2.1.cell
    have ck2 := hG2.2.2.1.cell
    have cn2 := cell_of_row _ w1.heap.size 0 _ _ _ (heap_alloc_new w1 (.cells #[.int .i64 (lev : Int), .slice a m.length c] 102))
    unfold srcV at cs2
    have HC := Lib.hid (fun k => HW.out lev m a c (fun _ => False) [] (w1.alloc (.cells #[.int .i64 (lev : Int), .slice a m.length c] 102)) k HS.out.1 HS.out.2.1 HS.out.2.2 hc1 (hr1.new hn2) (fun _ ad had => ⟨hf1 ad had, id⟩) hG2.2.2.2 hb2.size (fun k hk => hk.elim) (HG.out.2.1 _ (Ch.of_new hb2)) (by rw [HN.out]; exact List.prefix_refl _))
    have HB2 := Lib.hid (And.intro hb2 hG2)
    unfold srcV nodeV at HC
    clear hb1 hr1 hc1 hf1 hb2 hn2 hG2 cs cr ck HW
    gi_wp2
    refine ⟨trivial, (fun h => by cases h), ?_⟩
    refine (HC.out _).mono ?_
    rintro e V' ⟨R', h1, h2, h3, hJ'⟩
    have hz := h3.size
    have hG3 := LeavesG.stab b h mm lx root key _ _ HB2.out.2 (h3.mono fun k _ e => e.1)
    have HJ := Lib.hid (And.intro hJ' (And.intro h2 hG3))
    have HZ := Lib.hid (Nat.le_trans HB2.out.1.size hz)
    have hev : ∃ bv : Bool, e = .returned (.bool bv) := by
      rcases hJ' with ⟨rfl, _⟩ | ⟨rfl, _⟩
      · exact ⟨_, rfl⟩
      · exact ⟨_, rfl⟩
    obtain ⟨bv, rfl⟩ := hev
    clear hJ' h1 h2 h3 hG3 hz cs2 ck2 cn2
    gi_wp2
    go_end0
    refine ⟨⟨_, rfl⟩, R', HJ.out.2.1, HZ.out, ?_⟩
    rcases HJ.out.1 with ⟨_, hJ'⟩ | ⟨_, pre', hp', hJ'⟩
    · exact .inl ⟨by rw [HN.out]; rwa [List.nil_append] at hJ', HJ.out.2.2⟩
    · exact .inr ⟨pre', hp', hJ', HJ.out.2.2⟩
end Go.Proofs.YtfjlkphpeneahaaDoor
namespace Go.Proofs.YtfjlkphpeneahaaDoor
open Go Go.RowKit Go.Shelf
attribute [local go_sem] Oper.semAt_some

/-- What a round over pairs is handed. -/
def EncP (x : It) (args : Array Value) (_ : World) (_ : Nat → Prop) : Prop := args = #[.string (txt x.1), .string (txt x.2)]
def PairsK (b : Nat) (K : Nat → Prop) (k : Nat) : Prop := k = b ∨ K k
def PairsG (b : Nat) (fs : Value) (Gs : World → Prop) (V : World) : Prop := Boxed V b 99 fs ∧ Gs V
theorem EncL.stab (x : List It) (args : Array Value) (F : Nat → Prop) : Stab (fun k => ¬ F k) (fun V => EncL x args V F) := fun A B H hc => by
  obtain ⟨a, c, h1, h2, h3, h4, h5⟩ := H
  exact ⟨a, c, h1, h2.keepN hc fun hne ad had e => e (h5 hne ad had), h3, h4, h5⟩
theorem flat_prefix {xs zs : List (List It)} {x : List It} (h : zs ++ [x] <+: xs) (i : Nat) : zs.flatten ++ x.take i <+: xs.flatten := by
  obtain ⟨r, rfl⟩ := h
  rw [List.flatten_append, List.flatten_append, List.append_assoc]
  refine (List.prefix_append_right_inj _).2 ?_
  rw [show ([x] : List (List It)).flatten = x by simp]
  exact (List.take_prefix i x).trans (List.prefix_append _ _)
theorem flat_snoc (zs : List (List It)) (x : List It) : (zs ++ [x]).flatten = zs.flatten ++ x := by rw [List.flatten_append]; simp
/-- The box of a node that a round is handed. -/
def leafW (args : Array Value) (V : World) : World := match args.getD 0 undef with
  | .agg cs => V.alloc (.cells cs 102)
  | _ => V
theorem leafW_below (args : Array Value) (V : World) : Below V.heap.size V (leafW args V) := by
  unfold leafW
  split
  · exact (Below.refl _ _).alloc (Nat.le_refl _) _
  · exact Below.refl _ _
/-- What the rounds over a node's pairs keep. -/
structure PI2 (J : (Nat → Prop) → List It → World → Prop) (W : World) (K : Nat → Prop) (b : Nat) (fs yv : Value) (Ro : Nat → Prop) (zs : List (List It)) (x : List It) (V wr : World) (ii : Nat) (Ri : Nat → Prop) : Prop where
  sub : ∀ k, Ri k → Ro k ∨ V.heap.size ≤ k
  inn : ∀ k, Ri k → W.heap.size ≤ k ∧ k < wr.heap.size
  ch : Ch (fun k => ¬ K k ∧ k ≠ W.heap.size ∧ (k < W.heap.size ∨ Ro k)) V wr
  jj : J Ri (zs.flatten ++ x.take ii) wr
  bf : Boxed wr b 99 fs
  by_ : Boxed wr W.heap.size 135 yv
set_option maxRecDepth 100000 in
set_option maxHeartbeats 8000000 in
theorem pairs_iter {gf : Nat} {lb : Array Value} (eg : ∀ args w, (callFunc gf args).run Tryd.prog w = .ok (.enter gf args) w) {K : Nat → Prop} {xs : List (List It)} {Gs : World → Prop} (hit : IterR Tryd.prog gf lb EncL K (fun _ => False) xs Gs (fun _ => Gs))
    (hGss : Stab (fun k => ¬ K k) Gs) (b : Nat) :
    IterR Tryd.prog 77 #[.pointer (some ⟨b, 0, none⟩)] EncP (PairsK b K) (fun _ => False) xs.flatten (PairsG b (.func (.func gf) #[] lb) Gs) (fun _ => PairsG b (.func (.func gf) #[] lb) Gs) := by
  intro l J Jx W n hKW hTW hJ hJx hY h0 hG
  obtain ⟨hbf, hGs0⟩ := hG
  have hnb : b < W.heap.size := hbf.lt
  have hca : ∀ S : Nat → Prop, Ch S W (W.alloc (.cells #[.func (.yield l) #[] #[]] 135)) := fun S => Ch.alloc S W _
  have hbf1 := (hca (fun _ => False)).boxed hbf id
  have hy1 := Boxed.new W 135 (.func (.yield l) #[] #[])
  have cs := hbf1.cell
  refine callsIn_wide.2 ((callsIn_wide (n := 3)).1 ?_)
  refine callsIn_of_wp_marks Tryd.func77 rfl trivial ?_ rfl
  simp only [Tryd.ntmps77, List.size_toArray, List.length_cons, List.length_nil, Nat.reduceAdd, Nat.reduceSub, Array.replicate_succ, Array.replicate_zero, List.push_toArray, List.append_toArray, List.nil_append, List.cons_append]
  gi_wp2
  clear cs
  have hz1 : (W.alloc (.cells #[.func (.yield l) #[] #[]] 135)).heap.size = W.heap.size + 1 := by simp
  have hKW1 : ∀ k, K k → k < W.heap.size := fun k hk => hKW k (.inr hk)
  refine wpIn_rangeR (K := K) (T := fun _ => False) (xs := xs) (Gs := Gs) (G := fun _ => Gs) (gf := gf) (lb := lb) rfl eg hit (fun x args V F hE => by obtain ⟨a, c, h1, _⟩ := hE; rw [h1]; rfl) EncL.stab (fun k hk => by have := hKW1 k hk; omega) (fun k hk => hk.elim) (fun _ => hGss) hGss (hGss _ _ hGs0 (hca _))
    (fun R zs V => ∃ Ro : Nat → Prop, (∀ k, Ro k → R k) ∧ (∀ k, Ro k → W.heap.size ≤ k ∧ k < V.heap.size) ∧ J Ro zs.flatten V ∧ Boxed V b 99 (.func (.func gf) #[] lb) ∧ Boxed V W.heap.size 135 (.func (.yield l) #[] #[]))
    (fun cd R _ V => cd = .ret ∧ ∃ Ro : Nat → Prop, (∀ k, Ro k → R k) ∧ (∀ k, Ro k → W.heap.size ≤ k ∧ k < V.heap.size) ∧ (∃ pre, pre <+: xs.flatten ∧ Jx Ro pre V) ∧ Boxed V b 99 (.func (.func gf) #[] lb)) ?hI ?hIx ?h0
    (fun _ args V => { tmps := #[.func (.yield l) #[] #[], .pointer (some ⟨b, 0, none⟩), .pointer (some ⟨W.heap.size, 0, none⟩), .pointer (some ⟨V.heap.size, 0, none⟩), undef, undef, .func (.func gf) #[] lb, args.getD 0 undef, undef, undef, undef, undef, undef, undef, undef, undef, undef, undef, undef, undef, undef, undef, undef], defers := [] }) (fun _ args V => leafW args V) (fun _ args V => leafW_below args V) ?assign ?body ?done ?stop
  case hI =>
    rintro R pre hR A B ⟨Ro, h1, h2, h3, h4, h5⟩ hch
    rw [hz1] at hR
    have hn : ∀ k, k ≤ W.heap.size → ¬ ((fun _ => False : Nat → Prop) k ∨ ((W.alloc (.cells #[.func (.yield l) #[] #[]] 135)).heap.size ≤ k ∧ ¬ R k)) := by
      rintro k hk (h | ⟨h, _⟩)
      · exact h
      · omega
    refine ⟨Ro, h1, fun k hk => by have := h2 k hk; have := hch.size; omega, hJ Ro _ (fun k hk => (h2 k hk).1) A B h3 (hch.mono fun j _ h => h.imp id fun h => ⟨by omega, fun e => h.2 (h1 j e)⟩), hch.boxed h4 (hn _ (by omega)), hch.boxed h5 (hn _ (by omega))⟩
  case hIx =>
    rintro cd R pre hR A B ⟨hcd, Ro, h1, h2, ⟨pre', hp', h3⟩, h4⟩ hch
    rw [hz1] at hR
    have hn : ∀ k, k ≤ W.heap.size → ¬ ((fun _ => False : Nat → Prop) k ∨ ((W.alloc (.cells #[.func (.yield l) #[] #[]] 135)).heap.size ≤ k ∧ ¬ R k)) := by
      rintro k hk (h | ⟨h, _⟩)
      · exact h
      · omega
    exact ⟨hcd, Ro, h1, fun k hk => by have := h2 k hk; have := hch.size; omega, ⟨pre', hp', hJx Ro _ (fun k hk => (h2 k hk).1) A B h3 (hch.mono fun j _ h => h.imp id fun h => ⟨by omega, fun e => h.2 (h1 j e)⟩)⟩, hch.boxed h4 (hn _ (by omega))⟩
  case h0 =>
    intro W' hc
    exact ⟨fun _ => False, fun k hk => hk.elim, fun k hk => hk.elim, h0 W' ((hca _).tr hc), hc.boxed hbf1 id, hc.boxed hy1 id⟩
  case assign =>
    intro m l x args W F Kk hE hK
    obtain ⟨a, c, rfl, hE⟩ := hE
    have hK2 := hK
    unfold leafW nodeV at hK2
    unfold nodeV
    gi_wp2
    exact hK2
  case body =>
    rintro m l' R zs x args V0 V hM1 hW1 hR ⟨Ro, h1, h2, hj, b1, b2⟩ hpre ⟨a, c, rfl, hrd, hcap, hx16, hblk⟩
    rw [hz1] at hM1 hR hW1 hblk ⊢
    have hWz := hW1.size
    have hz0 : (leafW #[nodeV 0 a x.length c] V0).heap.size = V0.heap.size + 1 := by
      show (V0.alloc _).heap.size = _
      simp
    have hrow : V.heap[V0.heap.size]? = some (.cells #[.int .i64 ((0 : Nat) : Int), .slice a x.length c] 102 (0, 0)) := (hW1.block V0.heap.size (by omega) (by omega)).trans (heap_alloc_new V0 _)
    have c1 : V.cell? ⟨V0.heap.size, 1, none⟩ = some (.slice a x.length c) := cell_of_row _ _ 1 _ _ _ hrow
    have HA := Lib.hid (And.intro hM1 (And.intro hR (And.intro h1 (And.intro h2 (And.intro hpre (And.intro hrd (And.intro hblk (And.intro hY hJ))))))))
    have HZ : Hid (V0.heap.size < V.heap.size) := Lib.hid (lt_of_heap hrow)
    have HI0 : Hid (PI2 J W K b (.func (.func gf) #[] lb) (.func (.yield l) #[] #[]) Ro zs x V V 0 Ro) := Lib.hid ⟨fun k hk => .inl hk, fun k hk => by have := h2 k hk; omega, Ch.refl _ _, by rw [List.take_zero, List.append_nil]; exact hj, b1, b2⟩
    have hx16' : (x.length : Int) ≤ 16 := by omega
    clear hrow hrd hcap hblk h1 h2 hj b1 b2 hR hW1 hWz hz0
    unfold nodeV
    gi_wp2
    clear c1
    gi_loopw [11] (fun i wr => ∃ (ii : Nat) (Ri : Nat → Prop), i = .int .i64 (ii : Int) ∧ ii ≤ x.length ∧ Hid (PI2 J W K b (.func (.func gf) #[] lb) (.func (.yield l) #[] #[]) Ro zs x V wr ii Ri)) (fun i _ => x.length - (intOf i).toNat)
    case atStart => exact ⟨0, Ro, rfl, Nat.zero_le _, HI0⟩
    case round =>
      clear HI0
      obtain ⟨ii, Ri, rfl, hi, HI⟩ := hrel
      have hwz := (HI.out.ch).size
      by_cases hlt : ii < x.length
      · have hlt' : (ii : Int) < (x.length : Int) := by omega
        have hi0 : (0 : Int) ≤ (ii : Int) := by omega
        have hxne : x ≠ [] := fun e => by rw [e] at hlt; simp at hlt
        have hrdw : RdP wr a x := HA.out.2.2.2.2.2.1.keepN HI.out.ch fun hn ad had e => by
          have h3 := HA.out.2.2.2.2.2.2.1 hn ad had
          rcases e.2.2 with e2 | e2
          · omega
          · exact h3.2 (HA.out.2.2.1 _ e2)
        obtain ⟨b1, off, ha, k1, k2⟩ := hrdw ii hlt
        subst ha
        have hnew : Below wr.heap.size wr (wr.alloc (.cells #[.string (txt (itD x ii).1), .string (txt (itD x ii).2)] 52)) := (Below.refl _ _).alloc (Nat.le_refl _) _
        have hs1 : (wr.alloc (.cells #[.string (txt (itD x ii).1), .string (txt (itD x ii).2)] 52)).heap.size = wr.heap.size + 1 := by simp
        have cy := ((Ch.of_new (S := fun _ => False) hnew).boxed HI.out.by_ id).cell
        have htk := take_itD hlt
        have hYY := fun q => HA.out.2.2.2.2.2.2.2.1 Ri (zs.flatten ++ x.take ii) (itD x ii) #[.string (txt (itD x ii).1), .string (txt (itD x ii).2)] (wr.alloc (.cells #[.string (txt (itD x ii).1), .string (txt (itD x ii).2)] 52)) q (by have := HZ.out; have := HA.out.1; omega) (fun k hk => by have := HI.out.inn k hk; omega) (HA.out.2.2.2.2.2.2.2.2 Ri _ (fun k hk => (HI.out.inn k hk).1) _ _ HI.out.jj (Ch.of_new hnew)) (by rw [List.append_assoc, ← htk]; exact flat_prefix HA.out.2.2.2.2.1 (ii + 1)) rfl
        have HH := Lib.hid (And.intro hYY (And.intro hnew (And.intro htk hs1)))
        clear hrdw hYY hnew htk hs1
        generalize itD x ii = y at *
        obtain ⟨yk, yv⟩ := y
        dsimp only at *
        obtain ⟨fn, tmps, assign, body, hyr, hRI⟩ := HH.out.1 (m - 1)
        gi_wp2
        refine ⟨(fun h => by cases h), ?_⟩
        refine RoundIn.mono hRI ?_
        clear hRI hyr cy k1 k2
        rintro e V4 hj3
        have hz4 : (wr.alloc (.cells #[.string (txt yk), .string (txt yv)] 52)).heap.size ≤ V4.heap.size := by
          rcases hj3 with ⟨_, _, h⟩ | ⟨_, _, h⟩ <;> exact h.size
        have hst : ∀ V5, Ch (fun k => ¬ PairsK b K k ∧ (k < W.heap.size ∨ Ri k)) (wr.alloc (.cells #[.string (txt yk), .string (txt yv)] 52)) V5 → Ch (fun k => ¬ K k ∧ k ≠ W.heap.size ∧ (k < W.heap.size ∨ Ro k)) V V5 ∧ Boxed V5 b 99 (.func (.func gf) #[] lb) ∧ Boxed V5 W.heap.size 135 (.func (.yield l) #[] #[]) := fun V5 h => by
          have hn1 := Ch.of_new (S := fun k => ¬ PairsK b K k ∧ (k < W.heap.size ∨ Ri k)) HH.out.2.1
          have hWn : ¬ Ri W.heap.size := fun hk => by
            rcases HI.out.sub _ hk with h | h
            · have := (HA.out.2.1 _ (HA.out.2.2.1 _ h)).1; omega
            · have := HZ.out; have := HA.out.1; omega
          refine ⟨HI.out.ch.trans (hn1.tr h) fun k hk e => ⟨fun hK => e.1 (.inr hK), fun he => ?_, e.2.imp id fun e => (HI.out.sub k e).resolve_right (by omega)⟩, (hn1.tr h).boxed HI.out.bf (fun e => e.1 (.inl rfl)), (hn1.tr h).boxed HI.out.by_ (fun e => ?_)⟩
          · rcases e.2 with e2 | e2
            · omega
            · rw [he] at e2; exact hWn e2
          · rcases e.2 with e2 | e2
            · omega
            · exact hWn e2
        have hsub : ∀ k, grow Ri (wr.alloc (.cells #[.string (txt yk), .string (txt yv)] 52)).heap.size V4.heap.size k → Ro k ∨ V.heap.size ≤ k := fun k hk => by
          rcases hk with hk | ⟨hk, _⟩
          · exact HI.out.sub k hk
          · exact .inr (by have := HH.out.2.2.2; omega)
        have hinn : ∀ k, grow Ri (wr.alloc (.cells #[.string (txt yk), .string (txt yv)] 52)).heap.size V4.heap.size k → W.heap.size ≤ k ∧ k < V4.heap.size := fun k hk => by
          rcases hk with hk | ⟨hk, hk2⟩
          · have := HI.out.inn k hk; have := HH.out.2.2.2; omega
          · have := HH.out.2.2.2; have := HZ.out; have := HA.out.1; omega
        rcases hj3 with ⟨rfl, hj3, hc3⟩ | ⟨rfl, hj3, hc3⟩
        · obtain ⟨q1, q2, q3⟩ := hst _ hc3
          rw [List.append_assoc, ← HH.out.2.2.1] at hj3
          have HN := Lib.hid (⟨hsub, hinn, q1, hj3, q2, q3⟩ : PI2 J W K b (.func (.func gf) #[] lb) (.func (.yield l) #[] #[]) Ro zs x V V4 (ii + 1) _)
          clear hst hsub hinn hj3 hc3 q1 q2 q3 hz4
          gi_wp2
          go_roundw
          case rel => exact ⟨ii + 1, _, by go_num, by omega, HN⟩
          case measure => simp [intOf]; omega
        · obtain ⟨q1, q2, q3⟩ := hst _ hc3
          rw [List.append_assoc, ← HH.out.2.2.1] at hj3
          have HN := Lib.hid (And.intro hsub (And.intro hinn (And.intro q1 (And.intro hj3 q2))))
          clear hst hsub hinn hj3 hc3 q1 q2 q3 hz4
          gi_wp2
          refine ⟨HN.out.2.2.1.mono fun k hk e => ⟨e.1, e.2.2.imp (fun h => by omega) (fun h => HA.out.2.2.1 _ h)⟩, rfl, _, fun k hk => ?_, HN.out.2.1, ⟨_, flat_prefix HA.out.2.2.2.2.1 (ii + 1), HN.out.2.2.2.1⟩, HN.out.2.2.2.2⟩
          rcases HN.out.1 k hk with h | h
          · exact .inl (HA.out.2.2.1 _ h)
          · exact .inr ⟨by have := HZ.out; omega, (HN.out.2.1 k hk).2⟩
      · have hlt' : (x.length : Int) ≤ (ii : Int) := by omega
        have hj := HI.out.jj
        rw [List.take_of_length_le (by omega), ← flat_snoc] at hj
        have HJ := Lib.hid hj
        clear hj
        gi_wp2
        refine ⟨HI.out.ch.mono fun k hk e => ⟨e.1, e.2.2.imp (fun h => by omega) (fun h => HA.out.2.2.1 _ h)⟩, Ri, fun k hk => ?_, HI.out.inn, HJ.out, HI.out.bf, HI.out.by_⟩
        rcases HI.out.sub k hk with h | h
        · exact .inl (HA.out.2.2.1 _ h)
        · exact .inr ⟨by have := HZ.out; omega, (HI.out.inn k hk).2⟩
  case done =>
    rintro D R V rfl hR hMV ⟨Ro, h1, h2, h3, h4, h5⟩ hG3 hd
    rw [hz1] at hMV hR hd ⊢
    gi_wp2
    refine ⟨by simp, .inl ⟨_, _, rfl, run_takeDeferred hd, ?_⟩⟩
    have hp : ∀ S : Nat → Prop, S (W.heap.size + 1) → Ch S V (V.putObj (W.heap.size + 1) (.deferred none)) := fun S h => Ch.putObj _ _ _ fun _ => h
    have hDk : ∀ k, PairsK b K k → k ≠ W.heap.size + 1 := fun k hk => by have := hKW k hk; omega
    have hDR : ¬ Ro (W.heap.size + 1) := fun hk => by have := (hR _ (h1 _ hk)).1; omega
    exact ⟨_, results_none rfl _ _ _, ⟨_, rfl⟩, Ro, fun k hk => by have := h2 k hk; simpa using this, by simp; omega, .inl ⟨hJ Ro _ (fun k hk => (h2 k hk).1) _ _ h3 (hp _ (.inr ⟨by omega, hDR⟩)), (hp (fun k => k = W.heap.size + 1) rfl).boxed h4 (fun h => by omega), hGss _ _ hG3 (hp _ fun hk => hDk _ (.inr hk) rfl)⟩⟩
  case stop =>
    rintro D R cd pre V rfl hR hMV hpre ⟨rfl, Ro, h1, h2, ⟨pre', hp', h3⟩, h4⟩ hG3 hd
    rw [hz1] at hMV hR hd ⊢
    gi_wp2
    refine ⟨by simp, .inl ⟨_, _, rfl, run_takeDeferred hd, ?_⟩⟩
    have hp : ∀ S : Nat → Prop, S (W.heap.size + 1) → Ch S V (V.putObj (W.heap.size + 1) (.deferred none)) := fun S h => Ch.putObj _ _ _ fun _ => h
    have hDk : ∀ k, PairsK b K k → k ≠ W.heap.size + 1 := fun k hk => by have := hKW k hk; omega
    have hDR : ¬ Ro (W.heap.size + 1) := fun hk => by have := (hR _ (h1 _ hk)).1; omega
    exact ⟨_, results_none rfl _ _ _, ⟨_, rfl⟩, Ro, fun k hk => by have := h2 k hk; simpa using this, by simp; omega, .inr ⟨pre', hp', hJx Ro _ (fun k hk => (h2 k hk).1) _ _ h3 (hp _ (.inr ⟨by omega, hDR⟩)), (hp (fun k => k = W.heap.size + 1) rfl).boxed h4 (fun h => by omega), hGss _ _ hG3 (hp _ fun hk => hDk _ (.inr hk) rfl)⟩⟩
end Go.Proofs.YtfjlkphpeneahaaDoor
namespace Go.Proofs.YtfjlkphpeneahaaDoor
open Go Go.RowKit Go.Shelf
attribute [local go_sem] Oper.semAt_some

theorem eqIn_nil (d : Nat) (t : TypeId) (ps rs : Array TypeId) (vv : Bool) (ht : Tryd.prog.underlying t = some (.func ps rs vv)) (f : Fn) (ts : Array Value) (lb : Array Value) (w : World) : (Op.equalIn (d + 1) t (.func f ts lb) .nilFunc).run Tryd.prog w = .ok false w := by
  simp [Op.equalIn, run_underlying ht]
theorem eql_nil46 (f : Fn) (ts : Array Value) (lb : Array Value) (w : World) : (binOp .eql 46 (.func f ts lb) .nilFunc).run Tryd.prog w = .ok (.bool false) w := by
  have h : (Op.equal 46 (.func f ts lb) .nilFunc).run Tryd.prog w = .ok false w := eqIn_nil 9999 46 _ _ _ Tryd.underlying46 f ts lb w
  simp only [binOp]
  simp [h]
set_option maxRecDepth 100000 in
set_option maxHeartbeats 400000 in
theorem orEmpty_any (f : Fn) (ts : Array Value) (lb : Array Value) (w : World) :
    Calls Tryd.prog 46 #[.func f ts lb] w fun e w' => e = .returned (.func f ts lb) ∧ w' = w := by
  have hnil := eql_nil46
  go_enter Tryd.func46, Tryd.ntmps46
  go_wp2
  go_ret
  exact ⟨rfl, rfl⟩
set_option maxHeartbeats 400000 in
theorem leaves_any {h : Nat} {mm : Option Nat} {lx : Tx} (root key : Bs) (w : World) (H : HpM h mm lx w) :
    Calls Tryd.prog 49 #[srcV h, .string (txt root), .string (txt key)] w fun e w' => e = .returned (leavesRun w.heap.size) ∧ LeavesG w.heap.size h mm lx root key w' ∧ Below w.heap.size w w' := by
  unfold srcV
  go_enter Tryd.func49, Tryd.ntmps49
  go_wp2
  go_ret
  have b1 := Boxed.new w 95 (.iface 40 (.pointer (some ⟨h, 0, none⟩)))
  have b2 := Boxed.new (w.alloc (.cells #[.iface 40 (.pointer (some ⟨h, 0, none⟩))] 95)) 9 (.string (txt root))
  have b3 := Boxed.new ((w.alloc (.cells #[.iface 40 (.pointer (some ⟨h, 0, none⟩))] 95)).alloc (.cells #[.string (txt root)] 9)) 9 (.string (txt key))
  rw [World.size_alloc] at b2
  rw [World.size_alloc, World.size_alloc] at b3
  have hc : Ch (fun _ => False) w (((w.alloc (.cells #[.iface 40 (.pointer (some ⟨h, 0, none⟩))] 95)).alloc (.cells #[.string (txt root)] 9)).alloc (.cells #[.string (txt key)] 9)) := ((Ch.alloc _ w _).tr (Ch.alloc _ _ _)).tr (Ch.alloc _ _ _)
  exact ⟨rfl, ⟨(b1.alloc _).alloc _, b2.alloc _, b3, HpM.stab h mm lx _ _ H (hc.mono fun _ _ e => e.elim)⟩, hc.new⟩
set_option maxHeartbeats 400000 in
theorem pairsOf_any (f : Fn) (ts lb : Array Value) (w : World) :
    Calls Tryd.prog 48 #[.func f ts lb] w fun e w' => e = .returned (.func (.func 77) #[] #[.pointer (some ⟨w.heap.size, 0, none⟩)]) ∧ Boxed w' w.heap.size 99 (.func f ts lb) ∧ Below w.heap.size w w' := by
  go_enter Tryd.func48, Tryd.ntmps48
  go_wp2
  go_ret
  exact ⟨rfl, Boxed.new w 99 _, (Ch.alloc (fun _ => False) w _).new⟩
set_option maxRecDepth 100000 in
set_option maxHeartbeats 1000000 in
theorem all_any {h : Nat} {mm : Option Nat} {lx : Tx} (root : Bs) (w : World) (H : HpM h mm lx w) :
    Calls Tryd.prog 25 #[srcV h, .string (txt root)] w fun e w' => ∃ b, e = .returned (.func (.func 77) #[] #[.pointer (some ⟨b, 0, none⟩)]) ∧ PairsG b (leavesRun w.heap.size) (LeavesG w.heap.size h mm lx root []) w' ∧ w.heap.size + 3 ≤ b ∧ Below w.heap.size w w' := by
  have P49 := Lib.hid (leaves_any root [] w H)
  have P48 := Lib.hid (fun V => pairsOf_any (.func 78) #[] #[.pointer (some ⟨w.heap.size, 0, none⟩), .pointer (some ⟨w.heap.size + 1, 0, none⟩), .pointer (some ⟨w.heap.size + 2, 0, none⟩)] V)
  have P49' : Hid (Calls Tryd.prog 49 #[srcV h, .string (txt root), .string ⟨#[]⟩] w fun e w' => e = .returned (leavesRun w.heap.size) ∧ LeavesG w.heap.size h mm lx root [] w' ∧ Below w.heap.size w w') := P49
  unfold srcV at P49' ⊢
  unfold leavesRun at P49' ⊢
  clear P49
  go_enter Tryd.func25, Tryd.ntmps25
  go_wp2_with (first
    | (go_at_call 49; (with_reducible refine P49'.out.mono ?_); rintro e w1 ⟨rfl, hG1, hb1⟩)
    | (go_at_call 48; (with_reducible refine (P48.out _).mono ?_); rintro e w2 ⟨rfl, hB2, hb2⟩))
  go_ret
  have hz := hG1.2.2.1.lt
  exact ⟨w1.heap.size, rfl, ⟨hB2, LeavesG.stab _ h mm lx root [] _ _ hG1 (Ch.of_new hb2)⟩, by omega, hb1.trans (hb2.mono hb1.size)⟩
end Go.Proofs.YtfjlkphpeneahaaDoor
namespace Go.Proofs.YtfjlkphpeneahaaDoor
open Go Go.RowKit

theorem pair_run (w : World) (t ty e : TypeId) (ht : Tryd.prog.underlying t = some (.slice e)) (he : (Tryd.prog.info? e).map (fun i => (i.zero, i.size, i.bytes)) = some (some (.agg #[.string ByteArray.empty, .string ByteArray.empty]), 2, 32))
    (base : Nat) (v : Value) (xs : List It) (hown : OwP w base e v xs) (g : Nat) (n : It) (hrow : w.heap[g]? = some (.cells #[.string (txt n.1), .string (txt n.2)] e (0, 0))) (hlen : xs.length + 1 ≤ 100000000) (hbase : base ≤ w.heap.size) :
    ∃ v' w', (Builtin.append_ #[t, t] ty #[v, .slice (some ⟨g, 0, none⟩) 1 1]).run Tryd.prog w = .ok v' w' ∧ OwP w' base e v' (xs ++ [n]) ∧ Ch (fun j => v.ownBlock = some j) w w' ∧ ∀ k, v'.ownBlock = some k → v.ownBlock = some k ∨ w.heap.size ≤ k := by
  obtain ⟨i0, hi, hz0, hz1, hz2⟩ := info_parts he
  have hc : ∀ j u, ([.string (txt n.1), .string (txt n.2)] : List Value)[j]? = some u → w.cell? ((⟨g, 0, none⟩ : Addr).add j) = some u := by
    intro j y hj
    rw [add0, cell_of_row _ _ _ _ _ _ hrow]
    simpa using hj
  have h1 : ∀ u ∈ ([.string (txt n.1), .string (txt n.2)] : List Value), u.oneCell' = true := by
    intro y hy
    simp only [List.mem_cons, List.not_mem_nil, or_false] at hy
    rcases hy with rfl | rfl <;> rfl
  have hb : (xs.length + 1) * 32 ≤ 140737488355328 := by omega
  have hm : xs.length + 1 ≤ maxLen := by unfold maxLen; omega
  obtain ⟨v', w', hrun, r1, r2, r3⟩ := run_append_own (P := Tryd.prog) w base t ty e i0 _ 2 32 ht hi hz0 hz1 hz2 rfl (by decide) v xs.length (cellsI xs) hown ⟨g, 0, none⟩ 1 1 [.string (txt n.1), .string (txt n.2)] (by simp) hc h1 hm hb hbase
  refine ⟨v', w', hrun, ?_, Ch.of_grown r2 fun k hk => hk, ?_⟩
  · unfold OwP
    rw [cellsI_append, List.length_append]
    exact r1
  · intro k hk
    rcases hown.2 with ⟨hv, h0⟩ | ⟨g0, cap, cur, hv, hbg, hg, hnc, hcm, hcs, htk⟩
    · have hx : xs = [] := List.length_eq_zero_iff.1 h0
      subst hx
      obtain ⟨v2, w2, hrun2, q1, q2, q3⟩ := run_append_own (P := Tryd.prog) w w.heap.size t ty e i0 _ 2 32 ht hi hz0 hz1 hz2 rfl (by decide) (.slice none 0 0) 0 [] (World.ownsRow_nil _ _ _ _) ⟨g, 0, none⟩ 1 1 [.string (txt n.1), .string (txt n.2)] (by simp) hc h1 hm hb (Nat.le_refl _)
      rw [hv, hrun2] at hrun
      injection hrun with e1 e2
      subst e1
      exact .inr (q1.lt k hk).1
    · by_cases hr : xs.length + 1 ≤ cap
      · obtain ⟨w2, hrun2, _⟩ := run_append_fits (P := Tryd.prog) w base t ty e i0 2 ht hi hz1 g0 xs.length cap (cellsI xs) (hv ▸ hown) ⟨g, 0, none⟩ 1 1 [.string (txt n.1), .string (txt n.2)] (by simp) hc h1 hr
        rw [hv, hrun2] at hrun
        injection hrun with e1 e2
        subst e1
        left
        rw [hv]
        exact hk
      · have holds : ∀ j u, (cellsI xs)[j]? = some u → w.cell? ((⟨g0, 0, none⟩ : Addr).add j) = some u := by
          intro j u hj
          have hjl : j < xs.length * 2 := by have := (List.getElem?_eq_some_iff.1 hj).1; rwa [cellsI_length] at this
          rw [add0, cell_of_row _ _ _ _ _ _ hg, ← Array.getElem?_toList]
          rw [← htk] at hj
          rwa [List.getElem?_take_of_lt hjl] at hj
        have hrun2 := run_append_grow (P := Tryd.prog) w t ty e i0 _ ht hi hz0 ⟨g0, 0, none⟩ xs.length cap (cellsI xs) (by rw [hz1]; exact cellsI_length xs) holds ⟨g, 0, none⟩ 1 1 [.string (txt n.1), .string (txt n.2)] (by rw [hz1]; rfl) hc (by omega) (by omega) (by rw [hz2]; exact growslice_fits (by omega) hb)
        rw [hv, hrun2] at hrun
        injection hrun with e1 e2
        subst e1
        right
        have : w.heap.size = k := Option.some.inj hk
        omega
/-- append of one pair, in a round. -/
theorem wpListIn_pairB {F : Fence} {m : Nat} {w : World} {o : Oper} {a : Act} {Q : Exit → Act → World → Prop} {ops : Array Oper} {rest : List Oper} (hgd : o.guard = none) (s x : Operand) (t e : TypeId) (ho : o.op = .call { callee := .builtin .append, args := #[s, x], argTypes := #[t, t] })
    (ht : Tryd.prog.underlying t = some (.slice e)) (he : (Tryd.prog.info? e).map (fun i => (i.zero, i.size, i.bytes)) = some (some (.agg #[.string ByteArray.empty, .string ByteArray.empty]), 2, 32))
    (base : Nat) (v : Value) (xs : List It) (hs : a.eval s = v) (hown : OwP w base e v xs) (g : Nat) (n : It)
    (hx : a.eval x = .slice (some ⟨g, 0, none⟩) 1 1) (hrow : w.heap[g]? = some (.cells #[.string (txt n.1), .string (txt n.2)] e (0, 0))) (hlen : xs.length + 1 ≤ 100000000) (hbase : base ≤ w.heap.size)
    (h : ∀ v' w', OwP w' base e v' (xs ++ [n]) → Ch (fun j => v.ownBlock = some j) w w' → (∀ k, v'.ownBlock = some k → v.ownBlock = some k ∨ w.heap.size ≤ k) → wpListIn F m Tryd.prog ops Q rest (a.put o.dst v') w') : wpListIn F m Tryd.prog ops Q (o :: rest) a w := by
  refine wpListIn_plain hgd fun K hK' => ?_
  obtain ⟨v', w', hrun, r1, r2, r3⟩ := pair_run w t o.type e ht he base v xs hown g n hrow hlen hbase
  unfold Oper.wpIn
  refine ⟨by simp [Oper.about, ho, resolve, Target.leads, Sem.run_pure], ?_⟩
  rw [Oper.semAt_plain F _ _ (by rw [ho]; intro c hc'; cases hc')]
  simp [execOp, ho, resolve, invoke, builtin, hs, hx, hrun, Result.andThen]
  exact hK' _ _ (h v' w' r1 r2 r3)
end Go.Proofs.YtfjlkphpeneahaaDoor
namespace Go.Proofs.YtfjlkphpeneahaaDoor
open Go Go.RowKit Go.Shelf
attribute [local go_sem] Oper.semAt_some

set_option maxRecDepth 100000 in
set_option maxHeartbeats 1000000 in
/-- List of a run. -/
theorem list_any {gf : Nat} {lb : Array Value} (eg : ∀ args w, (callFunc gf args).run Tryd.prog w = .ok (.enter gf args) w) {K : Nat → Prop} {xs : List It} {Gs : World → Prop} (hit : IterR Tryd.prog gf lb EncP K (fun _ => False) xs Gs (fun _ => Gs)) (hn : xs.length ≤ 1000000) (w : World)
    (hK : ∀ k, K k → k < w.heap.size) (hGss : Stab (fun k => ¬ K k) Gs) (hG : Gs w) :
    Calls Tryd.prog 21 #[.func (.func gf) #[] lb] w fun e w' => ∃ v, e = .returned v ∧ OwP w' w.heap.size 52 v xs ∧ Below w.heap.size w w' := by
  refine (callsIn_wide (n := 3)).1 ?_
  refine callsIn_of_wp_marks Tryd.func21 rfl trivial ?_ rfl
  simp only [Tryd.ntmps21, List.size_toArray, List.length_cons, List.length_nil, Nat.reduceAdd, Nat.reduceSub, Array.replicate_succ, Array.replicate_zero, List.push_toArray, List.append_toArray, List.nil_append, List.cons_append]
  gi_wp2_with (refine ⟨trivial, ?_⟩; gi_at_call 46; refine (callsIn_wide.2 (orEmpty_any (.func gf) #[] lb _)).mono ?_; rintro e w' ⟨rfl, rfl⟩)
  have hx0 := Boxed.new w 30 (.slice none 0 0)
  have hz0 : (w.alloc (.cells #[.slice none 0 0] 30)).heap.size = w.heap.size + 1 := by simp
  refine wpIn_rangeR (K := K) (T := fun _ => False) (xs := xs) (Gs := Gs) (G := fun _ => Gs) (gf := gf) (lb := lb) rfl eg hit (fun x args V F hE => by rw [hE]; rfl) (fun x args F A B h _ => h) (fun k hk => by have := hK k hk; omega) (fun k hk => hk.elim) (fun _ => hGss) hGss (hGss _ _ hG (Ch.alloc _ w _))
    (fun R pre W => (∃ v, Boxed W w.heap.size 30 v ∧ OwP W (w.heap.size + 1) 52 v pre ∧ ∀ k, v.ownBlock = some k → R k) ∧ Below w.heap.size w W) (fun _ _ _ _ => False) ?hI ?hIx ?h0
    (fun x _ _ => { tmps := #[.func (.func gf) #[] lb, undef, .slice none 0 0, .pointer (some ⟨w.heap.size, 0, none⟩), .string (txt x.1), .string (txt x.2), .func (.func gf) #[] lb, .func (.func gf) #[] lb, .string (txt x.1), .string (txt x.2), undef, undef, undef, undef, undef, undef, undef], defers := [] }) (fun _ _ V => V) (fun _ _ _ => Below.refl _ _) ?assign ?body ?done ?stop
  case hI =>
    rintro R pre hR A B ⟨⟨v, hb, ho, hv⟩, hc⟩ hch
    rw [hz0] at hR
    refine ⟨⟨v, hch.boxed hb ?_, ho.keep hch ?_, hv⟩, hc.trans (hch.below (by have := hc.size; omega) ?_)⟩
    · rintro (h | ⟨h, _⟩)
      · exact h
      · rw [hz0] at h; omega
    · rintro k hk (h | ⟨_, h⟩)
      · exact h
      · exact h (hv k hk)
    · rintro k hk (h | ⟨h, _⟩)
      · exact h
      · rw [hz0] at h; omega
  case hIx => exact fun _ _ _ _ _ _ h _ => h
  case h0 =>
    intro W' hc
    exact ⟨⟨_, hc.boxed hx0 id, OwP.nil _ _ _, fun k hk => by cases hk⟩, ((Ch.alloc (fun _ => False) w _).tr hc).new⟩
  case assign =>
    intro m l x args W F Kk hE hK
    rw [hE]
    gi_wp2
    exact hK
  case body =>
    rintro m l R pre x args V0 W hM1 hW1 hR ⟨⟨v, hb, ho, hv⟩, hc⟩ hpre hE
    rw [hz0] at hM1 hW1 hR ⊢
    have hWz := hW1.size
    obtain ⟨kk, vv⟩ := x
    have hlen : pre.length + 1 ≤ 1000000 := by have := hpre.length_le; simp at this; omega
    have hcell := hb.cell
    have hbl := hb.lt
    have hoa := ho.new ((Below.refl W.heap.size W).alloc (Nat.le_refl _) (.cells #[.string (txt kk), .string (txt vv)] 52))
    obtain ⟨a, cap, rfl, _⟩ := ho.rd
    have hown : ∀ k, (Value.slice a pre.length cap).ownBlock = some k → w.heap.size + 1 ≤ k ∧ k < W.heap.size := ho.own
    gi_wp2_with (gi_at_builtin; refine wpListIn_pairB rfl (.tmp 10) (.tmp 14) 30 52 rfl Tryd.underlying30 Tryd.info52 (w.heap.size + 1) (.slice a pre.length cap) pre rfl hoa W.heap.size (kk, vv) rfl (prow W _ rfl 52 (kk, vv)) (by omega) (by simp; omega) ?_; intro v' w3 hown3 hc3 hbk3; obtain ⟨a', cap', hv', _⟩ := hown3.rd; subst hv'; have hb3 : Boxed w3 w.heap.size 30 (.slice a pre.length cap) := (hc3.boxed (hb.alloc _) (fun h => by have := (hown _ h).1; omega)); have hcell3 := hb3.cell; have hfz3 := hb3.frozen)
    have hWw : Ch (fun k => k = w.heap.size ∨ R k) W (w3.setCell ⟨w.heap.size, 0, none⟩ (.slice a' (pre ++ [(kk, vv)]).length cap')) :=
      ((Ch.alloc _ W _).trans hc3 (fun j _ h => .inr (hv j h))).tr (Ch.setCell _ _ _ fun _ => .inl rfl)
    have hl : (pre ++ [(kk, vv)]).length = pre.length + 1 := by simp
    rw [hl] at hWw hown3 hbk3
    refine ⟨hWw.mono ?_, ⟨⟨_, hb3.set _, hown3.keep (Ch.setCell (S := fun k => k = w.heap.size) _ _ _ fun _ => rfl) ?_, ?_⟩, hc.trans (hWw.below (by have := hc.size; omega) ?_)⟩⟩
    · rintro j _ (h | h)
      · exact ⟨fun hk => by have := hK _ hk; omega, .inl (by omega)⟩
      · exact ⟨fun hk => by have := hK _ hk; have := (hR _ h).1; omega, .inr h⟩
    · intro k hk e
      have := (hown3.own k hk).1
      omega
    · intro k hk
      rcases hbk3 k hk with h | h
      · exact .inl (hv k h)
      · refine .inr ⟨by simp at h; omega, ?_⟩
        have := (hown3.own k hk).2
        simpa [World.setCell] using this
    · rintro k hk (h | h)
      · omega
      · have := (hR _ h).1; omega
  case done =>
    rintro D R W rfl hR hMW ⟨⟨v, hb, ho, hv⟩, hc⟩ hg hd
    rw [hz0] at hMW hd hR ⊢
    have hcell := hb.cell
    gi_wp2
    refine ⟨by simp, .inl ⟨_, _, rfl, run_takeDeferred hd, ?_⟩⟩
    have hp : ∀ S : Nat → Prop, S (w.heap.size + 1) → Ch S W (W.putObj (w.heap.size + 1) (.deferred none)) := fun S h => Ch.putObj _ _ _ fun _ => h
    refine ⟨_, results_tmp rfl _ _ _, v, rfl, ?_, ?_⟩
    · exact (ho.keep (hp (fun k => k = w.heap.size + 1) rfl) fun k hk e => by have := (hR k (hv k hk)).1; omega).low (by omega)
    · exact hc.trans ((hp (fun k => k = w.heap.size + 1) rfl).below (by omega) fun k hk e => by omega)
  case stop =>
    rintro D R c pre W _ _ _ _ h
    exact h.elim
end Go.Proofs.YtfjlkphpeneahaaDoor
