/- The walk of walk: the nodes of level 0 below a node, told one by one. The walk of walk, by the level. -/
import Derived.Test.YtfjlkphpeneahaaDoorTFind
import Derived.Test.YtfjlkphpeneahaaDoorRunI
namespace Go.Proofs.YtfjlkphpeneahaaDoor
open Go Go.RowKit Go.Shelf
attribute [local go_sem] Oper.semAt_some

/-- What is told below the items of a list, in turn, up to the first that isn't right. -/
def seqW (f : It → List (List It) × Bool) : List It → List (List It) × Bool
  | [] => ([], true)
  | x :: r => if (f x).2 = true then ((f x).1 ++ (seqW f r).1, (seqW f r).2) else ((f x).1, false)
/-- The nodes of level 0 that are told below a node, and whether all was right. -/
def walkG (l : Tx) (key : Bs) : Nat → List It → List (List It) × Bool
  | 0, m => ([m], true)
  | lev + 1, m => seqW (fun x => match belowP l (lev + 1) x with | some q => walkG l key lev q | none => ([], false)) (fromL key m)
/-- A heap at this block, whose map is m. -/
def HpM (h : Nat) (m : Option Nat) (l : Tx) (w : World) : Prop := w.heap[h]? = some (.cells #[.map m] 92 (0, 0)) ∧ Pile w m l ∧ ∀ b, m = some b → b ≠ h
def KH (h : Nat) (m : Option Nat) (k : Nat) : Prop := k = h ∨ m = some k
theorem HpM.stab (h : Nat) (m : Option Nat) (l : Tx) : Stab (fun k => ¬ KH h m k) (HpM h m l) := fun _ _ H hc =>
  ⟨(hc.block h (lt_of_heap H.1) (fun e => e (.inl rfl))).trans H.1, H.2.1.keep hc fun _ hb e => e (.inr hb), H.2.2⟩
theorem HpM.hp {h : Nat} {m : Option Nat} {l : Tx} {w : World} (H : HpM h m l w) : Hp w h 0 l := ⟨m, H.1, H.2.1, Nat.zero_le _, fun b hb => ⟨Nat.zero_le _, H.2.2 b hb⟩⟩
theorem HpM.lt {h : Nat} {m : Option Nat} {l : Tx} {w : World} (H : HpM h m l w) : ∀ k, KH h m k → k < w.heap.size := by
  rintro k (rfl | hk)
  · exact lt_of_heap H.1
  · exact H.2.1.lt hk
/-- What a round over nodes of level 0 is handed. -/
def EncL (x : List It) (args : Array Value) (V : World) (F : Nat → Prop) : Prop := ∃ a c, args = #[nodeV 0 a x.length c] ∧ RdP V a x ∧ x.length ≤ c ∧ x.length ≤ 16 ∧ (x ≠ [] → ∀ ad, a = some ad → F ad.block)
/-- What walk and its rounds go by. -/
structure WC (l : Nat) (J Jx : (Nat → Prop) → List (List It) → World → Prop) (W : World) (K : Nat → Prop) (xs : List (List It)) : Prop where
  kw : ∀ k, K k → k < W.heap.size
  j : ∀ R pre, (∀ k, R k → W.heap.size ≤ k) → Stab (fun k => W.heap.size ≤ k ∧ ¬ R k) (J R pre)
  jx : ∀ R pre, (∀ k, R k → W.heap.size ≤ k) → Stab (fun k => W.heap.size ≤ k ∧ ¬ R k) (Jx R pre)
  y : ∀ R pre x args W1 m, W.heap.size ≤ W1.heap.size → (∀ k, R k → W.heap.size ≤ k ∧ k < W1.heap.size) → J R pre W1 → (pre ++ [x]) <+: xs → EncL x args W1 (fun k => W.heap.size ≤ k ∧ ¬ R k) → YieldAt Fence.wide m Tryd.prog l args W1 fun e W' =>
      (e = .returned (.bool true) ∧ J (grow R W1.heap.size W'.heap.size) (pre ++ [x]) W' ∧ Ch (fun k => ¬ K k ∧ (k < W.heap.size ∨ R k)) W1 W') ∨
      (e = .returned (.bool false) ∧ Jx (grow R W1.heap.size W'.heap.size) (pre ++ [x]) W' ∧ Ch (fun k => ¬ K k ∧ (k < W.heap.size ∨ R k)) W1 W')
/-- How walk leaves. -/
def WalkPost (J Jx : (Nat → Prop) → List (List It) → World → Prop) (W : World) (K : Nat → Prop) (xs pre : List (List It)) (o : List (List It) × Bool) (R : Nat → Prop) (V : World) (e : Ending) (V' : World) : Prop :=
  ∃ R' : Nat → Prop, (∀ k, R' k → R k ∨ V.heap.size ≤ k) ∧ (∀ k, R' k → W.heap.size ≤ k ∧ k < V'.heap.size) ∧ Ch (fun k => ¬ K k ∧ (k < W.heap.size ∨ R k)) V V' ∧
    ((e = .returned (.bool o.2) ∧ J R' (pre ++ o.1) V') ∨ (e = .returned (.bool false) ∧ ∃ pre', pre' <+: xs ∧ Jx R' pre' V'))
end Go.Proofs.YtfjlkphpeneahaaDoor
namespace Go.Proofs.YtfjlkphpeneahaaDoor
open Go Go.RowKit Go.Shelf
attribute [local go_sem] Oper.semAt_some

set_option maxRecDepth 100000 in
set_option maxHeartbeats 4000000 in
theorem walk_zero {l : Nat} {J Jx : (Nat → Prop) → List (List It) → World → Prop} {W : World} {K : Nat → Prop} {xs : List (List It)} (hc : WC l J Jx W K xs) (h : Nat) (key : Bs) (m : List It) (a : Option Addr) (c : Nat) (R : Nat → Prop) (pre : List (List It)) (V : World) (n : Nat)
    (hm : m.length ≤ 16) (hcap : m.length ≤ c) (hrd : RdP V a m) (hbl : m ≠ [] → ∀ ad, a = some ad → W.heap.size ≤ ad.block ∧ ¬ R ad.block) (hz : W.heap.size ≤ V.heap.size) (hR : ∀ k, R k → W.heap.size ≤ k ∧ k < V.heap.size) (hJ : J R pre V) (hp : (pre ++ [m]) <+: xs) :
    CallsIn Fence.wide n Tryd.prog 79 #[srcV h, nodeV 0 a m.length c, .string (txt key), .func (.yield l) #[] #[]] V (WalkPost J Jx W K xs pre ([m], true) R V) := by
  have hb0 : Below V.heap.size V (V.alloc (.cells #[.int .i64 0, .slice a m.length c] 102)) := (Below.refl _ _).alloc (Nat.le_refl _) _
  have c0 : (V.alloc (.cells #[.int .i64 0, .slice a m.length c] 102)).cell? ⟨V.heap.size, 0, none⟩ = some (.int .i64 0) := cell_of_row _ _ 0 _ _ _ (heap_alloc_new V _)
  have c1 : (V.alloc (.cells #[.int .i64 0, .slice a m.length c] 102)).cell? ⟨V.heap.size, 1, none⟩ = some (.slice a m.length c) := cell_of_row _ _ 1 _ _ _ (heap_alloc_new V _)
  have hs1 : (V.alloc (.cells #[.int .i64 0, .slice a m.length c] 102)).heap.size = V.heap.size + 1 := by simp
  have hY := fun k => hc.y R pre m #[nodeV 0 a m.length c] (V.alloc (.cells #[.int .i64 0, .slice a m.length c] 102)) k (by omega) (fun j hj => by have := hR j hj; omega) (hc.j R pre (fun j hj => (hR j hj).1) _ _ hJ (Ch.of_new hb0)) hp ⟨a, c, rfl, hrd.new hb0, hcap, hm, fun hne ad had => hbl hne ad had⟩
  have HA := Lib.hid (And.intro hs1 (And.intro hz hR))
  unfold nodeV at hY ⊢
  have ez : ((0 : Nat) : Int) = 0 := rfl
  rw [ez] at hY ⊢
  unfold srcV
  clear hrd hbl hJ hs1 hcap hz hR
  refine callsIn_of_wp Tryd.func79 rfl trivial ?_ rfl
  simp only [Tryd.ntmps79, List.size_toArray, List.length_cons, List.length_nil, Nat.reduceAdd, Nat.reduceSub, Array.replicate_succ, Array.replicate_zero, List.push_toArray, List.append_toArray, List.nil_append, List.cons_append]
  obtain ⟨fn, tmps, assign, body, hy, hRI⟩ := hY (n - 1)
  clear hY
  gi_wp2
  refine ⟨(fun h => by cases h), ?_⟩
  refine hRI.mono ?_
  clear hRI hy c0 c1
  have HB := Lib.hid hb0
  clear hb0
  rintro e W3 (⟨rfl, hJ3, hc3⟩ | ⟨rfl, hJ3, hc3⟩)
  · have HH := Lib.hid (And.intro hJ3 hc3)
    clear hJ3 hc3
    gi_wp2
    refine bodyPost_ret (results_tmp rfl _ _ _) rfl ?_
    have hz3 := HH.out.2.size
    have h1 := HA.out.1
    refine ⟨_, ?_, ?_, ((Ch.of_new HB.out).tr HH.out.2), .inl ⟨rfl, HH.out.1⟩⟩
    · rintro k (hk | ⟨hk, _⟩)
      · exact .inl hk
      · exact .inr (by omega)
    · rintro k (hk | ⟨hk, hk2⟩)
      · have := HA.out.2.2 k hk; omega
      · have := HA.out.2.1; omega
  · have HH := Lib.hid (And.intro hJ3 hc3)
    clear hJ3 hc3
    gi_wp2
    refine bodyPost_ret (results_tmp rfl _ _ _) rfl ?_
    have hz3 := HH.out.2.size
    have h1 := HA.out.1
    refine ⟨_, ?_, ?_, ((Ch.of_new HB.out).tr HH.out.2), .inr ⟨rfl, _, hp, HH.out.1⟩⟩
    · rintro k (hk | ⟨hk, _⟩)
      · exact .inl hk
      · exact .inr (by omega)
    · rintro k (hk | ⟨hk, hk2⟩)
      · have := HA.out.2.2 k hk; omega
      · have := HA.out.2.1; omega
/-- What walk does at a level. -/
def WalkH (l : Nat) (J Jx : (Nat → Prop) → List (List It) → World → Prop) (W : World) (K : Nat → Prop) (xs : List (List It)) (lx : Tx) (h : Nat) (mm : Option Nat) (key : Bs) (lev : Nat) : Prop :=
  ∀ (m : List It) (a : Option Addr) (c : Nat) (R : Nat → Prop) (pre : List (List It)) (V : World) (n : Nat), lev ≤ 32 → m.length ≤ 16 → rightL lev m = true → m.length ≤ c → RdP V a m → (m ≠ [] → ∀ ad, a = some ad → W.heap.size ≤ ad.block ∧ ¬ R ad.block) → HpM h mm lx V → W.heap.size ≤ V.heap.size → (∀ k, R k → W.heap.size ≤ k ∧ k < V.heap.size) → J R pre V → (pre ++ (walkG lx key lev m).1) <+: xs →
    CallsIn Fence.wide n Tryd.prog 79 #[srcV h, nodeV lev a m.length c, .string (txt key), .func (.yield l) #[] #[]] V (WalkPost J Jx W K xs pre (walkG lx key lev m) R V)
theorem seqW_drop (f : It → List (List It) × Bool) : ∀ (l : List It) (i : Nat), i < l.length → seqW f (l.drop i) = if (f (itD l i)).2 = true then ((f (itD l i)).1 ++ (seqW f (l.drop (i + 1))).1, (seqW f (l.drop (i + 1))).2) else ((f (itD l i)).1, false)
  | [], i, h => absurd h (by simp)
  | x :: r, 0, _ => rfl
  | x :: r, i + 1, h => seqW_drop f r i (by simpa using h)
/-- What the loop of walk keeps. -/
structure WI (l : Nat) (J Jx : (Nat → Prop) → List (List It) → World → Prop) (W : World) (K : Nat → Prop) (f : It → List (List It) × Bool) (fl : List It) (R : Nat → Prop) (pre : List (List It)) (V w2 wr : World) (ii : Nat) (Ri : Nat → Prop) (D : List (List It)) : Prop where
  sub : ∀ k, Ri k → R k ∨ w2.heap.size ≤ k
  inn : ∀ k, Ri k → W.heap.size ≤ k ∧ k < wr.heap.size
  ch : Ch (fun k => ¬ K k ∧ (k < W.heap.size ∨ R k)) w2 wr
  jj : J Ri (pre ++ D) wr
  eq : seqW f fl = (D ++ (seqW f (fl.drop ii)).1, (seqW f (fl.drop ii)).2)
set_option maxRecDepth 100000 in
set_option maxHeartbeats 16000000 in
theorem walk_succ {l : Nat} {J Jx : (Nat → Prop) → List (List It) → World → Prop} {W : World} {K : Nat → Prop} {xs : List (List It)} (hc : WC l J Jx W K xs) {lx : Tx} {h : Nat} {mm : Option Nat} (hK : ∀ k, KH h mm k → K k) (hs : Small lx) (key : Bs) (lev : Nat) (ih : WalkH l J Jx W K xs lx h mm key lev) : WalkH l J Jx W K xs lx h mm key (lev + 1) := by
  intro m a c R pre V n hlev hm hr hcap hrd hbl hH hz hR hJ hp
  have hb0 : Below V.heap.size V (V.alloc (.cells #[.int .i64 ((lev + 1 : Nat) : Int), .slice a m.length c] 102)) := (Below.refl _ _).alloc (Nat.le_refl _) _
  have hrow := heap_alloc_new V (.cells #[.int .i64 ((lev + 1 : Nat) : Int), .slice a m.length c] 102)
  have c0 : (V.alloc (.cells #[.int .i64 ((lev + 1 : Nat) : Int), .slice a m.length c] 102)).cell? ⟨V.heap.size, 0, none⟩ = some (.int .i64 ((lev + 1 : Nat) : Int)) := cell_of_row _ _ 0 _ _ _ hrow
  have c1 : (V.alloc (.cells #[.int .i64 ((lev + 1 : Nat) : Int), .slice a m.length c] 102)).cell? ⟨V.heap.size, 1, none⟩ = some (.slice a m.length c) := cell_of_row _ _ 1 _ _ _ hrow
  have P52 := Lib.hid (from_any (lev + 1) (hrd.new hb0) (by omega) hcap key)
  obtain ⟨f, hf⟩ : ∃ f : It → List (List It) × Bool, f = fun x => match belowP lx (lev + 1) x with | some q => walkG lx key lev q | none => ([], false) := ⟨_, rfl⟩
  have hW : walkG lx key (lev + 1) m = seqW f (fromL key m) := by rw [hf]; rfl
  have hfm : ∀ x ∈ fromL key m, x ∈ m := fun x hx => fromL_mem hx
  have hft := right_told hr (by omega)
  have hfs := right_sizes hr
  have hfl : (fromL key m).length ≤ 16 := Nat.le_trans (List.dropWhile_sublist _).length_le hm
  rw [hW] at hp ⊢
  obtain ⟨fl, hfe⟩ : ∃ fl, fromL key m = fl := ⟨_, rfl⟩
  rw [hfe] at P52 hp hfm hfl ⊢
  have hL : (1 : Int) ≤ ((lev + 1 : Nat) : Int) := by omega
  have HX : Hid (∀ x ∈ fl, toldOk x = true ∧ x.1.length ≤ 2000 ∧ x.2.length ≤ 8000) := Lib.hid fun x hx => ⟨hft.2 x (hfm x hx), hfs x (hfm x hx)⟩
  have HA := Lib.hid (And.intro hz (And.intro hR (And.intro hH (And.intro hp (And.intro hfl (And.intro hJ hlev))))))
  have HB0 := Lib.hid (And.intro hb0 hrow)
  have hablk : fl ≠ [] → ∀ ad, a = some ad → W.heap.size ≤ ad.block ∧ ¬ R ad.block ∧ ad.block < V.heap.size := fun hne ad had => by
    have hmne : m ≠ [] := fun e => by rw [e] at hfe; exact hne hfe.symm
    obtain ⟨b, off, ha, hlt⟩ := hrd.blk (List.length_pos_iff.2 hmne)
    rw [ha] at had
    cases had
    exact ⟨(hbl hmne _ ha).1, (hbl hmne _ ha).2, hlt⟩
  have HAB := Lib.hid hablk
  have hfl' : (fl.length : Int) ≤ 16 := by omega
  have hF : f = fun x => match belowP lx (lev + 1) x with | some q => walkG lx key lev q | none => ([], false) := hf
  have HFF := Lib.hid hF
  clear hf hF hW hfm hft hfs hfl hr hrd hbl hH hz hR hJ hp hb0 hrow hcap hlev hfe hablk
  unfold nodeV at P52 ⊢
  unfold srcV
  have hne0 : (((lev + 1 : Nat) : Int) == 0) = false := by rw [beq_eq_false_iff_ne]; omega
  have hne1 : ¬ ((lev + 1 : Nat) : Int) = 0 := by omega
  refine callsIn_of_wp Tryd.func79 rfl trivial ?_ rfl
  simp only [Tryd.ntmps79, List.size_toArray, List.length_cons, List.length_nil, Nat.reduceAdd, Nat.reduceSub, Array.replicate_succ, Array.replicate_zero, List.push_toArray, List.append_toArray, List.nil_append, List.cons_append]
  generalize hLL : ((lev + 1 : Nat) : Int) = L at *
  have HL := Lib.hid hLL
  clear hLL
  gi_wp2
  refine ⟨trivial, (fun h => by cases h), ?_⟩
  refine (callsIn_wide.2 P52.out).mono ?_
  rintro e w2 ⟨a2, c2, rfl, hr2, hblk2, hc2, hb2⟩
  have hV2 : Below V.heap.size V w2 := HB0.out.1.trans (hb2.mono HB0.out.1.size)
  have hbox : ∀ V', Ch (fun k => ¬ K k ∧ (k < W.heap.size ∨ R k)) w2 V' → V'.cell? ⟨V.heap.size, 0, none⟩ = some (.int .i64 L) := fun V' hV' => by
    have h1 : w2.heap[V.heap.size]? = _ := (hb2.block V.heap.size (by simp)).trans HB0.out.2
    have h2 : V'.heap[V.heap.size]? = _ := (hV'.block V.heap.size (lt_of_heap h1) (fun e => by
      rcases e.2 with e2 | e2
      · have := HA.out.1; omega
      · have := (HA.out.2.1 _ e2).2; omega)).trans h1
    exact cell_of_row _ _ 0 _ _ _ h2
  have HBX := Lib.hid hbox
  have HR2 : Hid (RdP w2 a2 fl ∧ fl.length ≤ c2 ∧ Below V.heap.size V w2 ∧ (fl ≠ [] → ∀ ad, a2 = some ad → W.heap.size ≤ ad.block ∧ ¬ R ad.block ∧ ad.block < V.heap.size)) := Lib.hid ⟨hr2, hc2, hV2, fun hne ad had => by
    obtain ⟨ad', h1, h2⟩ := hblk2 ad had
    rw [← h2]
    exact HAB.out hne ad' h1⟩
  have hz2 := hV2.size
  clear hbox hr2 hblk2 hc2 hb2 hV2 c0 c1 P52
  gi_wp2
  gi_loopw [23] (fun i wr => ∃ (ii : Nat) (Ri : Nat → Prop) (D : List (List It)), i = .int .i64 (ii : Int) ∧ ii ≤ fl.length ∧ Hid (WI l J Jx W K f fl R pre V w2 wr ii Ri D)) (fun i _ => fl.length - (intOf i).toNat)
  case atStart => exact ⟨0, R, [], rfl, Nat.zero_le _, Lib.hid ⟨fun k hk => .inl hk, fun k hk => by have := HA.out.2.1 k hk; omega, Ch.refl _ _, by rw [List.append_nil]; exact hc.j R pre (fun k hk => (HA.out.2.1 k hk).1) _ _ HA.out.2.2.2.2.2.1 (Ch.of_new HR2.out.2.2.1), by simp⟩⟩
  case round =>
    obtain ⟨ii, Ri, D, rfl, hi, HI⟩ := hrel
    by_cases hlt : ii < fl.length
    · have hlt' : (ii : Int) < (fl.length : Int) := by omega
      have hi0 : (0 : Int) ≤ (ii : Int) := by omega
      have hne : fl ≠ [] := fun e => by rw [e] at hlt; simp at hlt
      have hrdw : RdP wr a2 fl := HR2.out.1.keepN HI.out.ch fun hn ad had e => by
        have h3 := HR2.out.2.2.2 hn ad had
        rcases e.2 with e2 | e2
        · omega
        · exact h3.2.1 e2
      obtain ⟨b, off, ha, k1, k2⟩ := hrdw ii hlt
      subst ha
      have hx := HX.out _ (itD_mem hlt)
      have hdrop := seqW_drop f fl ii hlt
      have hnew3 : Below wr.heap.size wr (wr.alloc (.cells #[.string (txt (itD fl ii).1), .string (txt (itD fl ii).2)] 52)) := (Below.refl _ _).alloc (Nat.le_refl _) _
      have hHp : HpM h mm lx (wr.alloc (.cells #[.string (txt (itD fl ii).1), .string (txt (itD fl ii).2)] 52)) := HpM.stab h mm lx _ _ (HpM.stab h mm lx _ _ (HpM.stab h mm lx _ _ HA.out.2.2.1 (Ch.of_new HR2.out.2.2.1)) (HI.out.ch.mono fun k _ e hk => e.1 (hK k hk))) (Ch.of_new hnew3)
      have P53 := Lib.hid (getBelow_any hHp.hp hs (lev + 1) (by omega) (by have := HA.out.2.2.2.2.2.2; omega) (itD fl ii) ⟨by omega, hx.1⟩)
      have g0 := HBX.out _ (HI.out.ch.tr (Ch.of_new hnew3))
      have HN3 := Lib.hid (And.intro hnew3 hHp)
      have hfx : f (itD fl ii) = match belowP lx (lev + 1) (itD fl ii) with | some q => walkG lx key lev q | none => ([], false) := by rw [HFF.out]
      have HD := Lib.hid (And.intro hdrop hfx)
      unfold iv srcV at P53
      rw [HL.out] at P53
      clear hrdw hx hdrop hnew3 hHp hfx
      generalize itD fl ii = x at *
      cases hq : belowP lx (lev + 1) x with
      | none =>
        have PB : Hid (Calls Tryd.prog 53 #[.iface 40 (.pointer (some ⟨h, 0, none⟩)), .int .i64 L, .agg #[.string (txt x.1), .string (txt x.2)]] (wr.alloc (.cells #[.string (txt x.1), .string (txt x.2)] 52)) fun e w' => ∃ (z : Int) (a3 : Option Addr) (n3 c3 : Nat), e = .returned (.tuple #[.agg #[.int .i64 z, .slice a3 n3 c3], .bool false]) ∧ Below (wr.alloc (.cells #[.string (txt x.1), .string (txt x.2)] 52)).heap.size (wr.alloc (.cells #[.string (txt x.1), .string (txt x.2)] 52)) w') := Lib.hid (P53.out.mono (by
          rintro e w' ⟨he, hb⟩
          rw [hq] at he
          obtain ⟨z, a3, n3, c3, he⟩ := he
          exact ⟨z, a3, n3, c3, he, hb⟩))
        have HE : Hid (seqW f fl = (D, false)) := Lib.hid (by
          rw [HI.out.eq, HD.out.1, HD.out.2, hq]
          simp)
        clear hq P53
        generalize txt x.1 = xk at *
        generalize txt x.2 = xv at *
        gi_wp2
        refine ⟨trivial, (fun h => by cases h), ?_⟩
        refine (callsIn_wide.2 PB.out).mono ?_
        rintro e w4 ⟨z, a3, n3, c3, rfl, hb4⟩
        have HB4 := Lib.hid (HN3.out.1.trans (hb4.mono HN3.out.1.size))
        clear hb4 g0 k1 k2
        gi_wp2
        refine ⟨trivial, ?_⟩
        gi_wp2
        refine bodyPost_ret (results_tmp rfl _ _ _) rfl ?_
        rw [HE.out]
        have hb5 : Below wr.heap.size wr (w4.alloc (.cells #[.int .i64 z, .slice a3 n3 c3] 102)) := HB4.out.alloc HB4.out.size _
        exact ⟨Ri, fun k hk => (HI.out.sub k hk).imp id (fun h => by omega), fun k hk => by have := HI.out.inn k hk; have := hb5.size; omega, (Ch.of_new HR2.out.2.2.1).tr (HI.out.ch.tr (Ch.of_new hb5)), .inl ⟨rfl, hc.j Ri _ (fun k hk => (HI.out.inn k hk).1) _ _ HI.out.jj (Ch.of_new hb5)⟩⟩
      | some q =>
        obtain ⟨s1, s2, s3, s4, s5, s6, s7⟩ := belowP_some hq
        have PB : Hid (Calls Tryd.prog 53 #[.iface 40 (.pointer (some ⟨h, 0, none⟩)), .int .i64 L, .agg #[.string (txt x.1), .string (txt x.2)]] (wr.alloc (.cells #[.string (txt x.1), .string (txt x.2)] 52)) fun e w' => ∃ (a3 : Option Addr) (c3 : Nat), e = .returned (.tuple #[.agg #[.int .i64 (lev : Int), .slice a3 q.length c3], .bool true]) ∧ (RdP w' a3 q ∧ q.length ≤ c3 ∧ ∀ ad, a3 = some ad → wr.heap.size ≤ ad.block) ∧ Below (wr.alloc (.cells #[.string (txt x.1), .string (txt x.2)] 52)).heap.size (wr.alloc (.cells #[.string (txt x.1), .string (txt x.2)] 52)) w') := Lib.hid (P53.out.mono (by
          rintro e w' ⟨he, hb⟩
          rw [hq] at he
          obtain ⟨a3, c3, he, h1, h2, h3⟩ := he
          exact ⟨a3, c3, he, ⟨h1, h2, fun ad had => by have := h3 ad had; have := HN3.out.1.size; omega⟩, hb⟩))
        have HE : Hid (seqW f fl = if (walkG lx key lev q).2 = true then ((D ++ (walkG lx key lev q).1) ++ (seqW f (fl.drop (ii + 1))).1, (seqW f (fl.drop (ii + 1))).2) else (D ++ (walkG lx key lev q).1, false)) := Lib.hid (by
          rw [HI.out.eq, HD.out.1, HD.out.2, hq]
          dsimp only
          split <;> simp)
        have HQ := Lib.hid (And.intro s1 (And.intro s2 s3))
        clear hq P53 s1 s2 s3 s4 s5 s6 s7
        generalize txt x.1 = xk at *
        generalize txt x.2 = xv at *
        gi_wp2
        refine ⟨trivial, (fun h => by cases h), ?_⟩
        refine (callsIn_wide.2 PB.out).mono ?_
        rintro e w4 ⟨a3, c3, rfl, ⟨hr3, hc3, hf3⟩, hb4⟩
        have HB4 := Lib.hid (HN3.out.1.trans (hb4.mono HN3.out.1.size))
        have hb5 : Below wr.heap.size wr (w4.alloc (.cells #[.int .i64 (lev : Int), .slice a3 q.length c3] 102)) := HB4.out.alloc HB4.out.size _
        have hn5 : Below w4.heap.size w4 (w4.alloc (.cells #[.int .i64 (lev : Int), .slice a3 q.length c3] 102)) := (Below.refl _ _).alloc (Nat.le_refl _) _
        have hHp5 : HpM h mm lx (w4.alloc (.cells #[.int .i64 (lev : Int), .slice a3 q.length c3] 102)) := HpM.stab h mm lx _ _ (HpM.stab h mm lx _ _ HN3.out.2 (Ch.of_new hb4)) (Ch.of_new hn5)
        have hpre : (pre ++ D) ++ (walkG lx key lev q).1 <+: xs := by
          refine List.IsPrefix.trans ?_ HA.out.2.2.2.1
          rw [HE.out]
          split
          · rw [List.append_assoc]
            exact (List.prefix_append_right_inj _).2 (List.prefix_append _ _)
          · rw [List.append_assoc]
            exact List.prefix_refl _
        have HW5 := Lib.hid (fun k => ih q a3 c3 Ri (pre ++ D) (w4.alloc (.cells #[.int .i64 (lev : Int), .slice a3 q.length c3] 102)) k HQ.out.1 HQ.out.2.1 HQ.out.2.2 hc3 (hr3.new hn5) (fun _ ad had => ⟨by have := hf3 ad had; have := (HI.out.ch).size; have := HR2.out.2.2.1.size; have := HA.out.1; omega, fun e => by have := hf3 ad had; have := (HI.out.inn _ e).2; omega⟩) hHp5 (by have := hb5.size; have := (HI.out.ch).size; have := HA.out.1; omega) (fun k hk => by have := HI.out.inn k hk; have := hb5.size; omega) (hc.j Ri _ (fun k hk => (HI.out.inn k hk).1) _ _ HI.out.jj (Ch.of_new hb5)) hpre)
        have HB5 := Lib.hid hb5
        clear hb4 g0 k1 k2 hr3 hc3 hf3 hb5 hn5 hHp5 hpre
        gi_wp2
        refine ⟨trivial, (fun h => by cases h), ?_⟩
        refine (HW5.out _).mono ?_
        rintro e V' ⟨R', h1, h2, h3, hJ'⟩
        have hCh : Ch (fun k => ¬ K k ∧ (k < W.heap.size ∨ R k)) w2 V' := (HI.out.ch.tr (Ch.of_new HB5.out)).trans h3 fun k hk e => ⟨e.1, e.2.imp id fun e => (HI.out.sub k e).resolve_right (fun h => by omega)⟩
        have hsub : ∀ k, R' k → R k ∨ w2.heap.size ≤ k := fun k hk => by
          rcases h1 k hk with h | h
          · exact HI.out.sub k h
          · exact .inr (by have := HB5.out.size; have := (HI.out.ch).size; omega)
        have HC2 := Lib.hid (And.intro hCh (And.intro hsub h2))
        clear hCh hsub h1 h2 h3
        rcases hJ' with ⟨rfl, hJ'⟩ | ⟨rfl, pre', hp', hJ'⟩
        · rw [List.append_assoc] at hJ'
          have HJ := Lib.hid hJ'
          clear hJ'
          cases hw : (walkG lx key lev q).2 with
          | true =>
            have HE2 : Hid (seqW f fl = ((D ++ (walkG lx key lev q).1) ++ (seqW f (fl.drop (ii + 1))).1, (seqW f (fl.drop (ii + 1))).2)) := Lib.hid (by rw [HE.out, if_pos hw])
            clear hw
            gi_wp2
            go_roundw
            case rel => exact ⟨ii + 1, R', D ++ (walkG lx key lev q).1, by go_num, by omega, Lib.hid ⟨HC2.out.2.1, HC2.out.2.2, HC2.out.1, HJ.out, HE2.out⟩⟩
            case measure => simp [intOf]; omega
          | false =>
            have HE2 : Hid (seqW f fl = (D ++ (walkG lx key lev q).1, false)) := Lib.hid (by rw [HE.out, if_neg (by rw [hw]; simp)])
            clear hw
            gi_wp2
            refine bodyPost_ret (results_tmp rfl _ _ _) rfl ?_
            rw [HE2.out]
            exact ⟨R', fun k hk => (HC2.out.2.1 k hk).imp id (fun h => by omega), HC2.out.2.2, (Ch.of_new HR2.out.2.2.1).tr HC2.out.1, .inl ⟨rfl, HJ.out⟩⟩
        · have HJ := Lib.hid (And.intro hp' hJ')
          clear hp' hJ'
          gi_wp2
          refine bodyPost_ret (results_tmp rfl _ _ _) rfl ?_
          exact ⟨R', fun k hk => (HC2.out.2.1 k hk).imp id (fun h => by omega), HC2.out.2.2, (Ch.of_new HR2.out.2.2.1).tr HC2.out.1, .inr ⟨rfl, pre', HJ.out.1, HJ.out.2⟩⟩
    · have hlt' : (fl.length : Int) ≤ (ii : Int) := by omega
      have hE : seqW f fl = (D, true) := by
        rw [HI.out.eq, List.drop_of_length_le (by omega)]
        simp [seqW]
      have HE := Lib.hid hE
      clear hE
      gi_wp2
      refine bodyPost_ret (results_tmp rfl _ _ _) rfl ?_
      rw [HE.out]
      exact ⟨Ri, fun k hk => (HI.out.sub k hk).imp id (fun h => by omega), HI.out.inn, (Ch.of_new HR2.out.2.2.1).tr HI.out.ch, .inl ⟨rfl, HI.out.jj⟩⟩
theorem walk_in {l : Nat} {J Jx : (Nat → Prop) → List (List It) → World → Prop} {W : World} {K : Nat → Prop} {xs : List (List It)} (hc : WC l J Jx W K xs) {lx : Tx} {h : Nat} {mm : Option Nat} (hK : ∀ k, KH h mm k → K k) (hs : Small lx) (key : Bs) : ∀ lev, WalkH l J Jx W K xs lx h mm key lev
  | 0 => fun m a c R pre V n _ hm _ hcap hrd hbl _ hz hR hJ hp => walk_zero hc h key m a c R pre V n hm hcap hrd hbl hz hR hJ hp
  | lev + 1 => walk_succ hc hK hs key lev (walk_in hc hK hs key lev)
end Go.Proofs.YtfjlkphpeneahaaDoor
