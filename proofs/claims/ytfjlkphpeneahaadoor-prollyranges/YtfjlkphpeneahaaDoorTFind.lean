/- The walk of Find. -/
import Derived.Test.YtfjlkphpeneahaaDoorM6
namespace Go.Proofs.YtfjlkphpeneahaaDoor
open Go Go.RowKit

/-- What is found below a node of a level: none: a node isn't right; some none: no such key. -/
def findG (l : Tx) (key : Bs) : Nat → List It → Option (Option Bs)
  | 0, m => some (match fromL key m with | x :: _ => if x.1 = key then some x.2 else none | [] => none)
  | lev + 1, m => match fromL key m with
    | [] => some none
    | x :: _ => (belowP l (lev + 1) x).bind (findG l key lev)
def findP (l : Tx) (root key : Bs) : Option (Option Bs) := (rootP l root).bind fun p => findG l key p.1 p.2
def findV : Option (Option Bs) → Value
  | none => .tuple #[.string ⟨#[]⟩, .bool false, .int .i64 6]
  | some none => .tuple #[.string ⟨#[]⟩, .bool false, .int .i64 0]
  | some (some v) => .tuple #[.string (txt v), .bool true, .int .i64 0]
theorem belowP_some {l : Tx} {lev : Nat} {x : It} {m : List It} (h : belowP l lev x = some m) : lev - 1 ≤ 32 ∧ m.length ≤ 16 ∧ rightL (lev - 1) m = true ∧ m ≠ [] ∧ lastK m = x.1 ∧ totB (lev - 1) m = cntB x ∧ rootP l (prn x) = some (lev - 1, m) := by
  unfold belowP at h
  cases hr : rootP l (prn x) with
  | none => rw [hr] at h; cases h
  | some p =>
    obtain ⟨k, q⟩ := p
    rw [hr, Option.bind_some] at h
    split at h
    · rename_i hs
      cases h
      have h1 := rootP_some hr
      unfold standsB at hs
      simp only [Bool.and_eq_true, decide_eq_true_eq] at hs
      have e : lev - 1 = k := by omega
      rw [e]
      exact ⟨h1.1, h1.2.1, h1.2.2, hs.2.1, hs.2.2.1, hs.2.2.2, rfl⟩
    · cases h
theorem fromL_mem {key : Bs} {m : List It} {x : It} (h : x ∈ fromL key m) : x ∈ m := (List.dropWhile_sublist _).subset h
def findMu (g : Nat) (r : Value) (wr : World) : Nat := match r with
  | .bool true => (match wr.cell? ⟨g, 0, none⟩ with | some v => (intOf v).toNat + 1 | none => 1)
  | _ => 0
theorem RdP.keepN {S : Nat → Prop} {w w' : World} {a : Option Addr} {xs : List It} (h : RdP w a xs) (hc : Ch S w w') (hs : xs ≠ [] → ∀ ad, a = some ad → ¬ S ad.block) : RdP w' a xs := by
  by_cases e : xs = []
  · rw [e]; exact RdP.nil _ _
  · exact h.keep hc (hs e)
/-- A node in a block. -/
structure NB (w : World) (g lev : Nat) (m : List It) (a : Option Addr) (c : Nat) : Prop where
  row : w.heap[g]? = some (.cells #[.int .i64 (lev : Int), .slice a m.length c] 102 (0, 0))
  rd : RdP w a m
  cap : m.length ≤ c
  ne : m ≠ [] → ∀ ad, a = some ad → ad.block ≠ g
  le32 : lev ≤ 32
  few : m.length ≤ 16
  ok : rightL lev m = true
theorem NB.new {w w' : World} {g lev : Nat} {m : List It} {a : Option Addr} {c : Nat} (h : NB w g lev m a c) (hb : Below w.heap.size w w') : NB w' g lev m a c :=
  ⟨(hb.block g (lt_of_heap h.row)).trans h.row, h.rd.new hb, h.cap, h.ne, h.le32, h.few, h.ok⟩
/-- What the loop of Find keeps. -/
def FindI (l : Tx) (root key : Bs) (w : World) (g : Nat) (r : Bool) (wr : World) : Prop :=
  Below w.heap.size w wr ∧ w.heap.size ≤ g ∧ ((r = true ∧ ∃ lev m a c, NB wr g lev m a c ∧ findP l root key = findG l key lev m) ∨ (r = false ∧ findP l root key = none ∧ ∃ x y, wr.heap[g]? = some (.cells #[x, y] 102 (0, 0))))
set_option maxRecDepth 100000 in
set_option maxHeartbeats 8000000 in
theorem find_any {w : World} {h base : Nat} {l : Tx} (H : Hp w h base l) (hs : Small l) (root key : Bs) (hr : root.length ≤ 1000000) :
    Calls Tryd.prog 24 #[srcV h, .string (txt root), .string (txt key)] w fun e w' => e = .returned (findV (findP l root key)) ∧ Below w.heap.size w w' := by
  have P51 := Lib.hid (getNode_any H hs root hr)
  have P52 := Lib.hid (fun V lev a m c (hR : RdP V a m) (hm : m.length ≤ 16) (hc : m.length ≤ c) => from_any (w := V) lev hR (by omega) hc key)
  have P53 := Lib.hid (fun V (hV : Below w.heap.size w V) lev (h1 : 1 ≤ lev) (h2 : lev ≤ 32) x hx => getBelow_any (H.new hV) hs lev h1 (by omega) x hx)
  have HF : Hid (findP l root key = (rootP l root).bind fun p => findG l key p.1 p.2) := Lib.hid rfl
  have hroot := fun k m (h : rootP l root = some (k, m)) => rootP_some h
  unfold srcV at P51 P53 ⊢
  clear H hs hr
  have PA : Hid (Calls Tryd.prog 51 #[.iface 40 (.pointer (some ⟨h, 0, none⟩)), .string (txt root)] w fun e w1 => ∃ (r : Bool) (z : Int) (a : Option Addr) (n c : Nat), e = .returned (.tuple #[.agg #[.int .i64 z, .slice a n c], .bool r]) ∧ Below w.heap.size w w1 ∧ FindI l root key w w1.heap.size r (w1.alloc (.cells #[.int .i64 z, .slice a n c] 102))) := Lib.hid (by
    refine P51.out.mono ?_
    rintro e w1 ⟨he, hb⟩
    have hb2 : Below w.heap.size w (w1.alloc (.cells #[.int .i64 0, .slice none 0 0] 102)) := hb.alloc hb.size _
    cases hq : rootP l root with
    | none =>
      rw [hq] at he
      exact ⟨false, _, _, _, _, he, hb, hb2, hb.size, .inr ⟨rfl, by rw [HF.out, hq]; rfl, _, _, heap_alloc_new w1 _⟩⟩
    | some p =>
      obtain ⟨k, m⟩ := p
      rw [hq] at he
      obtain ⟨a, c, he2, h1, h2, h3⟩ := he
      have h4 := hroot k m hq
      refine ⟨true, _, _, _, _, he2, hb, hb.alloc hb.size _, hb.size, .inl ⟨rfl, k, m, a, c, ⟨heap_alloc_new w1 _, h1.new ((Below.refl _ _).alloc (Nat.le_refl _) _), h2, fun hne ad had e => ?_, h4.1, h4.2.1, h4.2.2⟩, by rw [HF.out, hq]; rfl⟩⟩
      cases m with
      | nil => exact hne rfl
      | cons z r =>
        obtain ⟨b, off, ha, hlt⟩ := h1.blk (by simp)
        rw [ha] at had
        cases had
        simp at e
        omega)
  clear P51 HF hroot
  go_enter Tryd.func24, Tryd.ntmps24
  go_wp2_with (go_at_call 51; (with_reducible refine PA.out.mono ?_); rintro e w1 ⟨r0, z0, a0, n0, k0, rfl, hb1, HI0⟩; have HI0' := Lib.hid HI0; clear HI0 hb1)
  generalize w1.alloc (.cells #[.int .i64 z0, .slice a0 n0 k0] 102) = W1 at *
  generalize w1.heap.size = g at *
  go_loopw [10] (fun r wr => ∃ b : Bool, r = .bool b ∧ Hid (FindI l root key w g b wr)) (fun r wr => findMu g r wr)
  case atStart => exact ⟨r0, rfl, HI0'⟩
  case round =>
    clear HI0' PA
    obtain ⟨b, rfl, HI⟩ := hrel
    obtain ⟨hbw, hgw, hI⟩ := HI.out
    rcases hI with ⟨rfl, lev, m, a, c, hN, hF⟩ | ⟨rfl, hF, x, y, hrow⟩
    · have c0 : wr.cell? ⟨g, 0, none⟩ = some (.int .i64 (lev : Int)) := cell_of_row _ _ 0 _ _ _ hN.row
      have c1 : wr.cell? ⟨g, 1, none⟩ = some (.slice a m.length c) := cell_of_row _ _ 1 _ _ _ hN.row
      have HN := Lib.hid (And.intro hN (And.intro hF (And.intro hbw hgw)))
      have HM : Hid (findMu g (.bool true) wr = lev + 1) := Lib.hid (by unfold findMu; rw [c0]; rfl)
      have hmf := hN.few
      have PF := Lib.hid (P52.out wr lev a m c hN.rd hN.few hN.cap)
      unfold nodeV at PF
      cases lev with
      | zero =>
        have HF0 : Hid (findP l root key = some (match fromL key m with | x :: _ => if x.1 = key then some x.2 else none | [] => none)) := Lib.hid hF
        clear hN hF hbw hgw HM P53
        have ez : ((0 : Nat) : Int) = 0 := rfl
        rw [ez] at c0 PF
        cases hfr : fromL key m with
        | nil =>
          rw [hfr] at PF HF0
          have HV : Hid (findV (findP l root key) = .tuple #[.string ⟨#[]⟩, .bool false, .int .i64 0]) := Lib.hid (by rw [HF0.out]; rfl)
          have PF2 : Hid (Calls Tryd.prog 52 #[.agg #[.int .i64 0, .slice a m.length c], .string (txt key)] wr fun e w' => ∃ a' c', e = .returned (.slice a' 0 c') ∧ Below wr.heap.size wr w') := Lib.hid (PF.out.mono (by rintro e w' ⟨a', c', he, -, -, -, hb⟩; exact ⟨a', c', he, hb⟩))
          clear PF HF0 hfr
          go_wp2_with (go_at_call 52; (with_reducible refine PF2.out.mono ?_); rintro e w2 ⟨a2, c2, rfl, hb2⟩)
          go_ret3
          exact ⟨HV.out.symm ▸ rfl, HN.out.2.2.1.trans (hb2.mono HN.out.2.2.1.size)⟩
        | cons x r =>
          rw [hfr] at PF HF0
          have PF2 : Hid (Calls Tryd.prog 52 #[.agg #[.int .i64 0, .slice a m.length c], .string (txt key)] wr fun e w' => ∃ b off c', e = .returned (.slice (some ⟨b, off, none⟩) (x :: r).length c') ∧ w'.cell? ⟨b, off, none⟩ = some (.string (txt x.1)) ∧ w'.cell? ⟨b, off + 1, none⟩ = some (.string (txt x.2)) ∧ Below wr.heap.size wr w') := Lib.hid (PF.out.mono (by
            rintro e w' ⟨a', c', he, hrd, -, -, hb⟩
            obtain ⟨b, off, ha, h1, h2⟩ := hrd 0 (by simp)
            subst ha
            rw [Nat.zero_mul, Nat.add_zero] at h1 h2
            exact ⟨b, off, c', he, h1, h2, hb⟩))
          have hlen : (0 : Int) < ((x :: r).length : Int) := by simp
          have heq := eql_txt x.1 key
          obtain ⟨xk, xv⟩ := x
          dsimp only at heq PF2 HF0
          generalize ((xk, xv) :: r).length = n at *
          by_cases hk : xk = key
          · have HV : Hid (findV (findP l root key) = .tuple #[.string (txt xv), .bool true, .int .i64 0]) := Lib.hid (by rw [HF0.out, if_pos hk]; rfl)
            rw [decide_eq_true hk] at heq
            clear PF HF0 hfr hk
            generalize txt xk = tk at *
            generalize txt xv = tv at *
            generalize txt key = tkey at *
            go_wp2_with (go_at_call 52; (with_reducible refine PF2.out.mono ?_); rintro e w2 ⟨b2, o2, c2, rfl, q1, q2, hb2⟩)
            go_ret3
            exact ⟨HV.out.symm ▸ rfl, HN.out.2.2.1.trans (hb2.mono HN.out.2.2.1.size)⟩
          · have HV : Hid (findV (findP l root key) = .tuple #[.string ⟨#[]⟩, .bool false, .int .i64 0]) := Lib.hid (by rw [HF0.out, if_neg hk]; rfl)
            rw [decide_eq_false hk] at heq
            clear PF HF0 hfr hk
            generalize txt xk = tk at *
            generalize txt xv = tv at *
            generalize txt key = tkey at *
            go_wp2_with (go_at_call 52; (with_reducible refine PF2.out.mono ?_); rintro e w2 ⟨b2, o2, c2, rfl, q1, q2, hb2⟩)
            go_ret3
            exact ⟨HV.out.symm ▸ rfl, HN.out.2.2.1.trans (hb2.mono HN.out.2.2.1.size)⟩
      | succ lev =>
        have HF0 : Hid (findP l root key = match fromL key m with | [] => some none | x :: _ => (belowP l (lev + 1) x).bind (findG l key lev)) := Lib.hid hF
        have hpos : (0 : Int) < ((lev + 1 : Nat) : Int) := by omega
        have hle := hN.le32
        have hok := hN.ok
        have hlt := lt_of_heap hN.row
        have HG : Hid (∀ V, Below wr.heap.size wr V → V.cell? ⟨g, 0, none⟩ = some (.int .i64 ((lev + 1 : Nat) : Int)) ∧ V.cell? ⟨g, 1, none⟩ = some (.slice a m.length c) ∧ V.frozen? ⟨g, 0, none⟩ = false ∧ V.frozen? ⟨g, 1, none⟩ = false ∧ V.heap[g]? = some (.cells #[.int .i64 ((lev + 1 : Nat) : Int), .slice a m.length c] 102 (0, 0))) := Lib.hid fun V hV => by
          have h1 := (hV.block g hlt).trans hN.row
          exact ⟨cell_of_row _ _ 0 _ _ _ h1, cell_of_row _ _ 1 _ _ _ h1, frozen_of_row _ _ _ _ _ h1, frozen_of_row _ _ _ _ _ h1, h1⟩
        cases hfr : fromL key m with
        | nil =>
          rw [hfr] at PF HF0
          have HV : Hid (findV (findP l root key) = .tuple #[.string ⟨#[]⟩, .bool false, .int .i64 0]) := Lib.hid (by rw [HF0.out]; rfl)
          have PF2 : Hid (Calls Tryd.prog 52 #[.agg #[.int .i64 ((lev + 1 : Nat) : Int), .slice a m.length c], .string (txt key)] wr fun e w' => ∃ a' c', e = .returned (.slice a' 0 c') ∧ Below wr.heap.size wr w') := Lib.hid (PF.out.mono (by rintro e w' ⟨a', c', he, -, -, -, hb⟩; exact ⟨a', c', he, hb⟩))
          clear PF HF0 hfr hN hF hbw hgw HM P53 HG
          generalize ((lev + 1 : Nat) : Int) = L at *
          go_wp2_with (go_at_call 52; (with_reducible refine PF2.out.mono ?_); rintro e w2 ⟨a2, c2, rfl, hb2⟩)
          go_ret3
          exact ⟨HV.out.symm ▸ rfl, HN.out.2.2.1.trans (hb2.mono HN.out.2.2.1.size)⟩
        | cons x r =>
          rw [hfr] at PF HF0
          have HF1 : Hid (findP l root key = (belowP l (lev + 1) x).bind (findG l key lev)) := Lib.hid HF0.out
          have hxm : x ∈ m := fromL_mem (key := key) (by rw [hfr]; simp)
          have hxt := (right_told hok (by omega)).2 x hxm
          have hxs := right_sizes hok x hxm
          have PF2 : Hid (Calls Tryd.prog 52 #[.agg #[.int .i64 ((lev + 1 : Nat) : Int), .slice a m.length c], .string (txt key)] wr fun e w' => ∃ b off c', e = .returned (.slice (some ⟨b, off, none⟩) (x :: r).length c') ∧ (∀ V, Below w'.heap.size w' V → V.cell? ⟨b, off, none⟩ = some (.string (txt x.1)) ∧ V.cell? ⟨b, off + 1, none⟩ = some (.string (txt x.2))) ∧ Below wr.heap.size wr w') := Lib.hid (PF.out.mono (by
            rintro e w' ⟨a', c', he, hrd, -, -, hb⟩
            obtain ⟨b, off, ha, h1, h2⟩ := hrd 0 (by simp)
            subst ha
            rw [Nat.zero_mul, Nat.add_zero] at h1 h2
            exact ⟨b, off, c', he, fun V hV => ⟨(Ch.of_new (S := fun _ => False) hV).cell h1 id, (Ch.of_new (S := fun _ => False) hV).cell h2 id⟩, hb⟩))
          have PB : Hid (∀ V, Below wr.heap.size wr V → Calls Tryd.prog 53 #[.iface 40 (.pointer (some ⟨h, 0, none⟩)), .int .i64 ((lev + 1 : Nat) : Int), .agg #[.string (txt x.1), .string (txt x.2)]] V fun e w' => ∃ (r : Bool) (z : Int) (a2 : Option Addr) (n2 c2 : Nat), e = .returned (.tuple #[.agg #[.int .i64 z, .slice a2 n2 c2], .bool r]) ∧ Below wr.heap.size wr w' ∧ FindI l root key w g r ((w'.setCell ⟨g, 0, none⟩ (.int .i64 z)).setCell ⟨g, 1, none⟩ (.slice a2 n2 c2)) ∧ findMu g (.bool r) ((w'.setCell ⟨g, 0, none⟩ (.int .i64 z)).setCell ⟨g, 1, none⟩ (.slice a2 n2 c2)) < lev + 1 + 1) := Lib.hid fun V hV => by
            refine (P53.out V (hbw.trans (hV.mono hbw.size)) (lev + 1) (by omega) hle x ⟨by omega, hxt⟩).mono ?_
            rintro e w' ⟨he, hb⟩
            have hb2 := hV.trans (hb.mono hV.size)
            have hbb : ∀ p q, Below w.heap.size w ((w'.setCell ⟨g, 0, none⟩ p).setCell ⟨g, 1, none⟩ q) := fun p q => (hbw.trans (hb2.mono hbw.size)).trans ((Ch.put2 w' g p q).below (by have := hb2.size; have := hbw.size; omega) fun k hk e => by omega)
            cases hq : belowP l (lev + 1) x with
            | none =>
              rw [hq] at he
              obtain ⟨z, a2, n2, c2, he⟩ := he
              refine ⟨false, z, a2, n2, c2, he, hb2, ⟨hbb _ _, hgw, .inr ⟨rfl, by rw [HF1.out, hq]; rfl, _, _, heap_put2 (HG.out _ hb2).2.2.2.2⟩⟩, ?_⟩
              show 0 < lev + 1 + 1
              omega
            | some m2 =>
              rw [hq] at he
              obtain ⟨a2, c2, he2, h1, h2, h3⟩ := he
              obtain ⟨s1, s2, s3, s4, s5, s6, s7⟩ := belowP_some hq
              have hrow := heap_put2 (x := .int .i64 (lev : Int)) (y := .slice a2 m2.length c2) (HG.out _ hb2).2.2.2.2
              refine ⟨true, (lev : Int), a2, m2.length, c2, he2, hb2, ⟨hbb _ _, hgw, .inl ⟨rfl, lev, m2, a2, c2, ⟨hrow, h1.keep (Ch.put2 _ _ _ _) (fun ad had e => by have := h3 ad had; have := hV.size; omega), h2, fun _ ad had e => by have := h3 ad had; have := hV.size; omega, s1, s2, s3⟩, by rw [HF1.out, hq]; rfl⟩⟩, ?_⟩
              have hc := cell_of_row _ _ 0 _ _ _ hrow
              unfold findMu
              dsimp only
              rw [hc]
              show (intOf (.int .i64 (lev : Int))).toNat + 1 < lev + 1 + 1
              simp [intOf]
          have hlen : ((x :: r).length : Int) ≠ 0 := by rw [List.length_cons]; omega
          have hlen2 : (0 : Int) < ((x :: r).length : Int) := by rw [List.length_cons]; omega
          have hlen3 : (((x :: r).length : Int) == 0) = false := by rw [beq_eq_false_iff_ne]; exact hlen
          clear PF HF0 HF1 hfr hN hF hbw hgw P53 hok hxm hxt hxs hlt hle
          generalize (x :: r).length = n at *
          generalize txt x.1 = xk at *
          generalize txt x.2 = xv at *
          generalize ((lev + 1 : Nat) : Int) = L at *
          go_wp2_with (go_at_call 52; (with_reducible refine PF2.out.mono ?_); rintro e w2 ⟨b2, o2, c2, rfl, hq, hb2⟩; obtain ⟨g0, g1, g2, g3, -⟩ := HG.out _ hb2)
          obtain ⟨q0, q1⟩ := hq _ (Below.refl _ _)
          obtain ⟨qd0, qd1⟩ := hq _ (Below.refl w2.heap.size w2).drew
          obtain ⟨gd0, gd1, gd2, gd3, -⟩ := HG.out _ hb2.drew
          have PBd := Lib.hid (PB.out w2.drew hb2.drew)
          clear hq c0 c1 PB
          go_region_with (go_at_call 53; (with_reducible refine PBd.out.mono ?_); rintro e w3 ⟨r3, z3, a3, n3, c3, rfl, hb3, hI3, hM3⟩; obtain ⟨ge0, ge1, ge2, ge3, -⟩ := HG.out _ hb3)
          all_goals (
            refine ⟨?_, ?measure⟩
            (repeat apply Exists.intro)
            refine ⟨?rel, rfl⟩
            case rel => exact ⟨r3, rfl, Lib.hid hI3⟩
            case measure =>
              show findMu g (.bool r3) _ < findMu g (.bool true) wr
              rw [HM.out]
              exact hM3)
    · have c0 : wr.cell? ⟨g, 0, none⟩ = some x := cell_of_row _ _ 0 _ _ _ hrow
      have HV : Hid (findV (findP l root key) = .tuple #[.string ⟨#[]⟩, .bool false, .int .i64 6]) := Lib.hid (by rw [hF]; rfl)
      clear hF hrow
      go_wp2
      go_ret3
      exact ⟨HV.out.symm ▸ rfl, hbw⟩
end Go.Proofs.YtfjlkphpeneahaaDoor
