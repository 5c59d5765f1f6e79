/- Walk of Joined. -/
import Derived.Test.YtlgamaldngkdnaaOf
import Derived.Test.YtlgamaldngkdnaaBoth
import Derived.Test.YtlgamaldngkdnaaRises
import Derived.Test.YtlgamaldngkdnaaOrder
import Derived.Shelf.RegionOpen
import Derived.RangeFuncCalls
namespace Go.Proofs.Ytlgamaldngkdnaa
open Go Go.RowKit Go.Shelf
attribute [local go_sem] Oper.semAt_some
attribute [-go_sem] Builtin.append_

/-- How it stands: js is joined, bs is left of the list. -/
def JoinI (xs zs : List Pr) (n : Nat) (js : List Bt) (bs : List Pr) : Prop :=
  js ++ joinL (xs.drop n) bs = joinL xs zs ∧ (n = 0 → js = []) ∧ (0 < n → 0 < js.length ∧ (bt js (js.length - 1)).k = ky xs (n - 1))
def boxLen (W : World) (b : Nat) : Nat := match W.cell? ⟨b, 0, none⟩ with | some (.slice _ n _) => n | _ => 0
def JoinB (w : World) (h : Nat) (M : Nat) (js : List Bt) (bs : List Pr) (W : World) : Prop :=
  (∃ ba bc, Boxed W h 27 (.slice ba bs.length bc) ∧ Rd w ba bs ∧ bs.length ≤ bc) ∧ (∃ v, Boxed W (h + 1) 47 v ∧ OwB W M 52 v js) ∧ Ch (fun k => h ≤ k) w W

/-- append of one to a slice that the call made itself. -/
theorem append_B (w : World) (base : Nat) (v : Value) (js : List Bt) (hown : OwB w base 52 v js) (g : Nat) (x : Bt) (hrow : w.heap[g]? = some (.cells #[.string x.k, .int .i64 x.l, .int .i64 x.r, .bool x.hl, .bool x.hr] 52 (0, 0))) (hlen : js.length + 1 ≤ 100000) (hbase : base ≤ w.heap.size) :
    ∃ a' c' w', (Builtin.append_ #[47, 47] 47 #[v, .slice (some ⟨g, 0, none⟩) 1 1]).run Try.prog w = .ok (.slice a' (js.length + 1) c') w' ∧ OwB w' base 52 (.slice a' (js.length + 1) c') (js ++ [x]) ∧ Ch (fun j => v.ownBlock = some j) w w' := by
  obtain ⟨i0, hi, hz0, hz1, hz2⟩ := info_parts Try.info52
  obtain ⟨v', w', hr, h1, h2, _⟩ := run_append_own (P := Try.prog) w base 47 47 52 i0 _ 5 40 Try.underlying47 hi hz0 hz1 hz2 rfl (by decide) v js.length (cellsB js) hown ⟨g, 0, none⟩ 1 1 x.cells (by simp [Bt.cells]) (by
      intro j y hj
      have e : (⟨g, 0, none⟩ : Addr).add j = ⟨g, j, none⟩ := by unfold Addr.add; split <;> simp_all
      rw [e, cell_of_row _ _ _ _ _ _ hrow]
      simpa [Bt.cells] using hj) (by
      intro y hy
      simp only [Bt.cells, List.mem_cons, List.not_mem_nil, or_false] at hy
      rcases hy with rfl | rfl | rfl | rfl | rfl <;> rfl) (by unfold maxLen; omega) (by omega) hbase
  have ho : OwB w' base 52 v' (js ++ [x]) := by
    unfold OwB
    rw [cellsB_append, List.length_append]
    have : cellsB [x] = x.cells := by simp [cellsB]
    rw [this]
    exact h1
  obtain ⟨a', c', rfl, _⟩ := ho.rd
  rw [List.length_append, List.length_singleton] at hr ho
  exact ⟨a', c', w', hr, ho, Ch.of_grown h2 fun k hk => hk⟩
theorem cell_lt {w : World} {p : Addr} {v : Value} (h : w.cell? p = some v) : p.block < w.heap.size := by
  refine Nat.lt_of_not_le fun hn => ?_
  have : w.heap[p.block]? = none := Array.getElem?_eq_none hn
  simp [World.cell?, this] at h
theorem join_step {wr w' : World} {h M : Nat} {js : List Bt} {ja : Option Addr} {jc : Nat} {vb : Value} (hM : h + 2 ≤ M) (hMr : M ≤ wr.heap.size) (hj : Boxed wr (h + 1) 47 (.slice ja js.length jc)) (hb : Boxed wr h 27 vb) (ho : OwB wr M 52 (.slice ja js.length jc) js) (hc : Ch (fun _ => False) wr w') (x : Bt) (hlen : js.length ≤ 1000) :
    ∃ a' c' w3, (Builtin.append_ #[47, 47] 47 #[.slice ja js.length jc, .slice (some ⟨w'.heap.size, 0, none⟩) 1 1]).run Try.prog (w'.alloc (.cells #[.string x.k, .int .i64 x.l, .int .i64 x.r, .bool x.hl, .bool x.hr] 52)) = .ok (.slice a' (js.length + 1) c') w3 ∧
      Boxed w3 (h + 1) 47 (.slice ja js.length jc) ∧ Boxed w3 h 27 vb ∧ OwB w3 M 52 (.slice a' (js.length + 1) c') (js ++ [x]) ∧ Ch (fun k => M ≤ k) wr w3 := by
  have hc2 : Ch (fun _ => False) wr (w'.alloc (.cells #[.string x.k, .int .i64 x.l, .int .i64 x.r, .bool x.hl, .bool x.hr] 52)) := hc.tr (Ch.alloc _ _ _)
  have hz := hc2.size
  obtain ⟨a', c', w3, h1, h2, h3⟩ := append_B _ M _ js (ho.keep hc2 (fun _ _ _ => id)) w'.heap.size x (World.alloc_heap_new w' _) (by omega) (by omega)
  have h4 : Ch (fun k => M ≤ k) wr w3 := (hc2.mono fun _ _ h => h.elim).trans h3 (fun j _ hj => (ho.own j hj).1)
  exact ⟨a', c', w3, h1, h4.boxed hj (by omega), h4.boxed hb (by omega), h2, h4⟩
theorem Rd.up {w W : World} {a : Option Addr} {xs : List Pr} (h : Rd w a xs) (hc : Ch (fun k => w.heap.size ≤ k) w W) : Rd W a xs := fun i hi => by
  obtain ⟨b, off, ha, h1, h2⟩ := h i hi
  have hl := cell_lt h1
  exact ⟨b, off, ha, hc.cell (p := ⟨b, off + i * 2, none⟩) h1 (by simp only at hl ⊢; omega), hc.cell (p := ⟨b, off + i * 2 + 1, none⟩) h2 (by simp only at hl ⊢; omega)⟩
theorem JoinB.keep {S : Nat → Prop} {w A B : World} {h M : Nat} {js : List Bt} {bs : List Pr} (hj : JoinB w h M js bs A) (hc : Ch S A B) (_ : h + 2 ≤ M) (hS : ∀ k, S k → h + 2 ≤ k ∧ k < M) : JoinB w h M js bs B := by
  obtain ⟨⟨ba, bc, h1, h2, h3⟩, ⟨v, h4, h5⟩, h6⟩ := hj
  refine ⟨⟨ba, bc, hc.boxed h1 (fun hk => by have := hS _ hk; omega), h2, h3⟩, ⟨v, hc.boxed h4 (fun hk => by have := hS _ hk; omega), h5.keep hc (fun k hk _ hs => by have := hS _ hs; omega)⟩, h6.trans hc (fun j _ hs => by have := hS _ hs; omega)⟩

theorem Rd.tail {w : World} {b off bc : Nat} {y : Pr} {bs : List Pr} (h : Rd w (some ⟨b, off, none⟩) (y :: bs)) (hc : bs.length + 1 ≤ bc) : Rd w (if bc = 1 then some ⟨b, off, none⟩ else some ⟨b, off + 2, none⟩) bs := fun i hi => by
  rw [if_neg (by omega)]
  obtain ⟨b', off', he, h1, h2⟩ := h (i + 1) (by simp; omega)
  cases he
  exact ⟨b, off + 2, rfl, by rw [show off + 2 + i * 2 = off + (i + 1) * 2 by omega]; exact h1, by rw [show off + 2 + i * 2 = off + (i + 1) * 2 by omega]; exact h2⟩
theorem JoinB.set1 {w w3 : World} {h M : Nat} {js : List Bt} {bs : List Pr} {v v' : Value} {ba : Option Addr} {bc : Nat} (hM : h + 2 ≤ M) (hj3 : Boxed w3 (h + 1) 47 v) (hb3 : Boxed w3 h 27 (.slice ba bs.length bc)) (ho3 : OwB w3 M 52 v' js) (hcw : Ch (fun k => h ≤ k) w w3) (hR : Rd w ba bs) (hbc : bs.length ≤ bc) : JoinB w h M js bs (w3.setCell ⟨h + 1, 0, none⟩ v') := by
  have hc : Ch (fun k => k = h + 1) w3 (w3.setCell ⟨h + 1, 0, none⟩ v') := Ch.setCell _ _ _ fun _ => rfl
  exact ⟨⟨ba, bc, hc.boxed hb3 (by omega), hR, hbc⟩, ⟨v', hj3.set _, ho3.keep hc (fun k h1 _ h2 => by omega)⟩, hcw.trans hc (fun j _ hj => by omega)⟩
theorem JoinB.set0 {w W : World} {h M : Nat} {js : List Bt} {bs bs' : List Pr} {ba : Option Addr} {bc : Nat} (hM : h + 2 ≤ M) (hJ : JoinB w h M js bs W) (hR : Rd w ba bs') (hbc : bs'.length ≤ bc) : JoinB w h M js bs' (W.setCell ⟨h, 0, none⟩ (.slice ba bs'.length bc)) := by
  obtain ⟨⟨b0, c0, h1, _, _⟩, ⟨v, h4, h5⟩, h6⟩ := hJ
  have hc : Ch (fun k => k = h) W (W.setCell ⟨h, 0, none⟩ (.slice ba bs'.length bc)) := Ch.setCell _ _ _ fun _ => rfl
  exact ⟨⟨ba, bc, h1.set _, hR, hbc⟩, ⟨v, hc.boxed h4 (by omega), h5.keep hc (fun k h1 _ h2 => by omega)⟩, h6.trans hc (fun j _ hj => by omega)⟩
theorem JoinB.len {w W : World} {h M : Nat} {js : List Bt} {bs : List Pr} (hJ : JoinB w h M js bs W) : boxLen W h = bs.length := by
  obtain ⟨⟨b0, c0, h1, _, _⟩, _⟩ := hJ
  unfold boxLen
  rw [h1.cell]

theorem join_round {w V wr w3 : World} {M b off bc jc c' : Nat} {js : List Bt} {bs : List Pr} {yk : ByteArray} {yv : Int} {ja a' : Option Addr} {x : Pr} {R : List Pr} {Z : List Bt} (hM : w.heap.size + 2 ≤ M)
    (h1 : Boxed wr w.heap.size 27 (.slice (some ⟨b, off, none⟩) ((yk, yv) :: bs).length bc)) (h2 : Rd w (some ⟨b, off, none⟩) ((yk, yv) :: bs)) (h3 : ((yk, yv) :: bs).length ≤ bc) (h5 : Ch (fun k => w.heap.size ≤ k) w wr)
    (h6 : js ++ joinL (x :: R) ((yk, yv) :: bs) = Z) (h7 : Ch (fun k => k = w.heap.size ∨ k = w.heap.size + 1 ∨ M ≤ k) V wr) (hlt : lt yk x.1 = true)
    (hj3 : Boxed w3 (w.heap.size + 1) 47 (.slice ja js.length jc)) (hb3 : Boxed w3 w.heap.size 27 (.slice (some ⟨b, off, none⟩) ((yk, yv) :: bs).length bc)) (ho3 : OwB w3 M 52 (.slice a' (js.length + 1) c') (js ++ [rightB (yk, yv)])) (hc3 : Ch (fun k => M ≤ k) wr w3) :
    (∃ js' bs', JoinB w w.heap.size M js' bs' ((w3.setCell ⟨w.heap.size + 1, 0, none⟩ (.slice a' (js.length + 1) c')).setCell ⟨w.heap.size, 0, none⟩ (.slice (if bc = 1 then some ⟨b, off, none⟩ else some ⟨b, off + 2, none⟩) bs.length (bc - 1))) ∧ js' ++ joinL (x :: R) bs' = Z ∧
      Ch (fun k => k = w.heap.size ∨ k = w.heap.size + 1 ∨ M ≤ k) V ((w3.setCell ⟨w.heap.size + 1, 0, none⟩ (.slice a' (js.length + 1) c')).setCell ⟨w.heap.size, 0, none⟩ (.slice (if bc = 1 then some ⟨b, off, none⟩ else some ⟨b, off + 2, none⟩) bs.length (bc - 1)))) ∧
    boxLen ((w3.setCell ⟨w.heap.size + 1, 0, none⟩ (.slice a' (js.length + 1) c')).setCell ⟨w.heap.size, 0, none⟩ (.slice (if bc = 1 then some ⟨b, off, none⟩ else some ⟨b, off + 2, none⟩) bs.length (bc - 1))) w.heap.size < boxLen wr w.heap.size := by
  have hl : bs.length + 1 ≤ bc := by simpa using h3
  have hJ0 := (JoinB.set1 hM hj3 hb3 ho3 (h5.trans hc3 (fun j _ hj => by omega)) h2 h3).set0 (bs' := bs) hM (h2.tail hl) (show bs.length ≤ bc - 1 by omega)
  refine ⟨⟨js ++ [rightB (yk, yv)], bs, hJ0, ?_, ?_⟩, ?_⟩
  · rw [List.append_assoc, ← h6, joinL_r _ _ hlt]; rfl
  · exact (h7.trans hc3 (fun j _ hj => .inr (.inr hj))).tr ((Ch.setCell _ _ _ fun _ => .inr (.inl rfl)).tr (Ch.setCell _ _ _ fun _ => .inl rfl))
  · rw [hJ0.len]
    unfold boxLen
    rw [h1.cell]
    exact Nat.lt_succ_self _

theorem bt_last (js : List Bt) (x : Bt) : bt (js ++ [x]) js.length = x := by simp [bt]
theorem JoinI.next {xs zs bs : List Pr} {n : Nat} {js : List Bt} {x : Bt} (h : js ++ x :: joinL (xs.drop (n + 1)) bs = joinL xs zs) (hk : ky xs n = x.k) : JoinI xs zs (n + 1) (js ++ [x]) bs :=
  ⟨by rw [← h, List.append_assoc]; rfl, fun h => absurd h (Nat.succ_ne_zero n), fun _ => ⟨by simp, by rw [show (js ++ [x]).length - 1 = js.length by simp, bt_last, Nat.add_sub_cancel, hk]⟩⟩
theorem join_end {w V wr w3 : World} {M bc jc c' n n' : Nat} {js : List Bt} {x : Bt} {xs zs bs : List Pr} {ja a' ba : Option Addr} {K : Nat → Prop} (hM : w.heap.size + 2 ≤ M) (hK : ∀ k, K k → k < w.heap.size)
    (h2 : Rd w ba bs) (h3 : bs.length ≤ bc) (h5 : Ch (fun k => w.heap.size ≤ k) w wr) (h7 : Ch (fun k => k = w.heap.size ∨ k = w.heap.size + 1 ∨ M ≤ k) V wr)
    (hj3 : Boxed w3 (w.heap.size + 1) 47 (.slice ja js.length jc)) (hb3 : Boxed w3 w.heap.size 27 (.slice ba bs.length bc)) (ho3 : OwB w3 M 52 (.slice a' (js.length + 1) c') (js ++ [x])) (hc3 : Ch (fun k => M ≤ k) wr w3)
    (hn : n' = n + 1) (h : js ++ x :: joinL (xs.drop (n + 1)) bs = joinL xs zs) (hk : ky xs n = x.k) :
    Ch (fun k => ¬ K k ∧ ¬ (w.heap.size + 2 ≤ k ∧ k < M)) V (w3.setCell ⟨w.heap.size + 1, 0, none⟩ (.slice a' (js.length + 1) c')) ∧
      ∃ js' bs', JoinB w w.heap.size M js' bs' (w3.setCell ⟨w.heap.size + 1, 0, none⟩ (.slice a' (js.length + 1) c')) ∧ JoinI xs zs n' js' bs' := by
  refine ⟨((h7.trans hc3 (fun j _ hj => .inr (.inr hj))).tr (Ch.setCell _ _ _ fun _ => .inr (.inl rfl))).mono fun j _ hj => ⟨fun hk => by have := hK _ hk; omega, by omega⟩, js ++ [x], bs, JoinB.set1 hM hj3 hb3 ho3 (h5.trans hc3 (fun j _ hj => by omega)) h2 h3, ?_⟩
  rw [hn]
  exact JoinI.next h hk

theorem OwB.base {w : World} {b b' : Nat} {e : TypeId} {v : Value} {js : List Bt} (h : OwB w b e v js) (hb : b' ≤ b) : OwB w b' e v js :=
  ⟨h.1, h.2.imp id fun ⟨g, cap, cur, h1, h2, h3⟩ => ⟨g, cap, cur, h1, by omega, h3⟩⟩
theorem take_right (bs : List Pr) (i : Nat) (h : i < bs.length) : (bs.take (i + 1)).map rightB = (bs.take i).map rightB ++ [rightB (ky bs i, vl bs i)] := by
  rw [take_succ_pr bs i h, List.map_append]; rfl

set_option maxRecDepth 100000 in
set_option maxHeartbeats 1000000 in
theorem joined_any {gf : Nat} {lb : Array Value} (eg : ∀ args w, (callFunc gf args).run Try.prog w = .ok (.enter gf args) w) {K : Nat → Prop} {xs zs : List Pr} {Gs : World → Prop} (hit : Iter Try.prog gf lb enc2 K (fun _ => False) xs Gs (fun _ => Gs)) (hxl : xs.length ≤ 300) (hzl : zs.length ≤ 300) (hrise : Rise xs) (w : World)
    (hK : ∀ k, K k → k < w.heap.size) (hGss : Stab (fun k => ¬ K k) Gs) (hG : Gs w) (ab : Option Addr) (cb : Nat) (hb : Rd w ab zs) (hcb : zs.length ≤ cb) :
    Calls Try.prog 27 #[.func (.func gf) #[] lb, .slice ab zs.length cb] w fun e w' => ∃ v, e = .returned v ∧ OwB w' w.heap.size 52 v (joinL xs zs) ∧ Ch (fun _ => False) w w' := by
  refine (callsIn_wide (n := 3)).1 ?_
  refine callsIn_of_wp_marks Try.func27 rfl trivial ?_ rfl
  simp only [Try.ntmps27, List.size_toArray, List.length_cons, List.length_nil, Nat.reduceAdd, Nat.reduceSub, Array.replicate_succ, Array.replicate_zero, List.push_toArray, List.append_toArray, List.nil_append, List.cons_append]
  gi_wp2_with (refine ⟨trivial, ?_⟩; gi_at_call 34; refine (callsIn_wide.2 (orEmpty_any (.func gf) #[] lb _)).mono ?_; rintro e w' ⟨rfl, rfl⟩)
  have hx0 := (Boxed.new w 27 (.slice ab zs.length cb)).alloc (.cells #[.slice none 0 0] 47)
  have hx1 := Boxed.new (w.alloc (.cells #[.slice ab zs.length cb] 27)) 47 (.slice none 0 0)
  have hc0 : Ch (fun k => w.heap.size ≤ k) w ((w.alloc (.cells #[.slice ab zs.length cb] 27)).alloc (.cells #[.slice none 0 0] 47)) := (Ch.alloc _ w _).tr (Ch.alloc _ _ _)
  rw [World.size_alloc] at hx1
  obtain ⟨w3, hw3⟩ : ∃ w3, (w.alloc (.cells #[.slice ab zs.length cb] 27)).alloc (.cells #[.slice none 0 0] 47) = w3 := ⟨_, rfl⟩
  have hz0 : w3.heap.size = w.heap.size + 2 := by rw [← hw3]; simp
  rw [hw3] at hx0 hx1 hc0 ⊢
  clear hw3
  have hz1 : ∀ k, K k → k < w3.heap.size := fun k hk => by have := hK k hk; omega
  refine wpIn_range (K := K) (T := fun _ => False) (xs := xs) (Gs := Gs) (G := fun _ => Gs) (gf := gf) (lb := lb) rfl eg hit (fun _ => rfl) hz1 (fun k hk => hk.elim) (fun _ => hGss) hGss (hGss _ _ hG (hc0.mono fun j hj h => by omega))
    (fun M pre W => ∃ js bs, JoinB w w.heap.size M js bs W ∧ JoinI xs zs pre.length js bs) (fun _ _ _ _ => False) ?hI ?hIx ?h0
    (fun x => { tmps := #[.func (.func gf) #[] lb, .slice ab zs.length cb, undef, .pointer (some ⟨w.heap.size, 0, none⟩), .slice none 0 0, .pointer (some ⟨w.heap.size + 1, 0, none⟩), .string x.1, .int .i64 x.2, undef, undef, undef, .func (.func gf) #[] lb, .func (.func gf) #[] lb, .string x.1, .int .i64 x.2, undef, undef, undef, undef, undef, undef, undef, undef, undef, undef, undef, undef, undef, undef, undef, undef, undef, undef, undef, undef, undef, undef, undef, undef, undef, undef, undef, undef, undef, undef, undef, undef, undef, undef, undef, undef, undef, undef, undef, undef, undef, undef, undef, undef, undef, undef, undef, undef, undef, undef, undef, undef, undef, undef, undef, undef, undef, undef, undef, undef, undef, undef, undef, undef, undef, undef, undef, undef, undef, undef, undef, undef, undef, undef, undef], defers := [] }) ?assign ?body ?done ?stop
  case hI =>
    rintro M pre hM A B ⟨js, bs, hj, hi⟩ hc
    exact ⟨js, bs, hj.keep hc (by omega) (fun k hk => by rcases hk with hk | hk; exact hk.elim; omega), hi⟩
  case hIx => exact fun _ _ _ _ _ _ h _ => h
  case h0 =>
    intro W' hc
    exact ⟨[], zs, ⟨⟨ab, cb, hc.boxed hx0 id, hb, hcb⟩, ⟨_, hc.boxed hx1 id, OwB.nil _ _ _⟩, hc0.trans hc (fun _ _ h => h.elim)⟩, rfl, fun _ => rfl, fun h => absurd h (Nat.lt_irrefl 0)⟩
  case assign =>
    intro m l x W Kk hK
    simp only [enc2]
    gi_wp2
    exact hK
  case body =>
    rintro m l M pre x V hM hMV ⟨js, bs, hJ, hI⟩ hpre
    rw [hz0] at hM ⊢
    have hmx : Try.prog.follows .mixedOrders = true := by kernel_rfl
    have hpl : pre.length + 1 ≤ xs.length := by have := hpre.length_le; simpa using this
    have hx := prefix_get hpre
    obtain ⟨kk, vv⟩ := x
    obtain ⟨rfl, rfl⟩ : kk = ky xs pre.length ∧ vv = vl xs pre.length := by injection hx with h1 h2; exact ⟨h1, h2⟩
    clear hx hpre
    obtain ⟨⟨ba, bc, hbB, hbR, hbc⟩, ⟨v, hjB, hjO⟩, hcV⟩ := hJ
    obtain ⟨ja, jc, rfl, hjR, hjl⟩ := hjO.rd
    have cB := hbB.cell
    have cJ := hjB.cell
    have hjlen : js.length ≤ 600 := by
      have h1 := joinL_length xs zs
      have h2 := congrArg List.length hI.1
      rw [List.length_append] at h2
      omega
    have hdrop : xs.drop pre.length = (ky xs pre.length, vl xs pre.length) :: xs.drop (pre.length + 1) := by
      rw [List.drop_eq_getElem_cons (by omega)]
      unfold ky vl
      rw [List.getD_eq_getElem?_getD, List.getElem?_eq_getElem (by omega)]
      rfl
    have HI : Hid (js ++ joinL ((ky xs pre.length, vl xs pre.length) :: xs.drop (pre.length + 1)) bs = joinL xs zs) := Lib.hid (by rw [← hdrop]; exact hI.1)
    have HJ : Hid (JoinB w w.heap.size M js bs V) := Lib.hid ⟨⟨ba, bc, hbB, hbR, hbc⟩, ⟨_, hjB, hjO⟩, hcV⟩
    have HC : Hid (pre.length = 0 ∧ js.length = 0 ∨ ∃ q g off k0, js.length = q + 1 ∧ ja = some ⟨g, off, none⟩ ∧ V.cell? ⟨g, off + q * 5, none⟩ = some (.string k0) ∧ lt k0 (ky xs pre.length) = true) := by
      refine Lib.hid ?_
      rcases Nat.eq_zero_or_pos pre.length with hp | hp
      · exact .inl ⟨hp, by rw [hI.2.1 hp]; rfl⟩
      · obtain ⟨hj0, hjk⟩ := hI.2.2 hp
        obtain ⟨g, off, hja, hcl⟩ := hjR (js.length - 1) (by omega)
        exact .inr ⟨js.length - 1, g, off, ky xs (pre.length - 1), by omega, hja, by rw [← hjk]; exact hcl 0 (by omega), hrise (pre.length - 1) pre.length (by omega) (by omega)⟩
    clear hI hdrop hjR hjl hbB hbR hbc hjB hjO hcV
    have HP := Lib.hid (And.intro hpl hjlen)
    clear hpl hjlen
    have HL : Hid ((pre ++ [(ky xs pre.length, vl xs pre.length)]).length = pre.length + 1) := Lib.hid (by simp)
    have HK : Hid (ky xs pre.length = ky xs pre.length) := Lib.hid rfl
    generalize pre ++ [(ky xs pre.length, vl xs pre.length)] = pre' at HL ⊢
    generalize hk1 : ky xs pre.length = k1 at HI HC HK ⊢
    generalize vl xs pre.length = v1 at HI ⊢
    have HK1 := Lib.hid hk1
    clear HK hk1
    generalize pre.length = n at HI HC HP HL HK1
    rcases HC.out with ⟨_, hj0⟩ | ⟨q, g, off, k0, hq, hja, hcl, hlt⟩
    case' inl =>
      rw [hj0] at cJ
      clear HC hj0
      gi_wp2
      refine ⟨trivial, ?_⟩
      gi_wp2
    case' inr =>
      subst hja
      rw [hq] at cJ
      have hq0 : (0 : Int) < ((q + 1 : Nat) : Int) := by omega
      have hjlen : js.length ≤ 600 := HP.out.2
      clear HC
      have HLT := Lib.hid hlt
      clear hlt
      gi_wp2
      refine ⟨trivial, (fun h => by cases h), ?_⟩
      refine (CallsIn.inRound l (callsIn_wide.2 (less_str k0 k1 V))).mono ?_
      rintro e V2 ⟨rfl, hV2⟩
      rw [HLT.out, hV2]
      clear hV2 V2
      gi_wp2
      clear hq0 hjlen hq HLT hcl
    all_goals clear cB cJ
    all_goals gi_loopw [] (fun wr => ∃ js bs, JoinB w w.heap.size M js bs wr ∧ js ++ joinL ((k1, v1) :: xs.drop (n + 1)) bs = joinL xs zs ∧ Ch (fun k => k = w.heap.size ∨ k = w.heap.size + 1 ∨ M ≤ k) V wr) (fun wr => boxLen wr w.heap.size)
    case' atStart => exact ⟨js, bs, HJ.out, HI.out, Ch.refl _ _⟩
    all_goals (try exact ⟨js, bs, HJ.out, HI.out, Ch.refl _ _⟩)
    all_goals clear HJ HI
    all_goals obtain ⟨js, bs, ⟨⟨ba, bc, hbB, hbR, hbc⟩, ⟨v, hjB, hjO⟩, hcV⟩, hjoin, hcr⟩ := hrel
    all_goals obtain ⟨ja, jc, rfl, hjR, hjl⟩ := hjO.rd
    all_goals have cB := hbB.cell
    all_goals have cJ := hjB.cell
    all_goals have fB := hbB.frozen
    all_goals have fJ := hjB.frozen
    all_goals (
      rcases bs with _ | ⟨⟨yk, yv⟩, bs⟩
      case' nil =>
        have hlen : js.length ≤ 1000 := by
          have h1 := joinL_length xs zs
          have h2 := congrArg List.length hjoin
          rw [List.length_append] at h2
          omega
        obtain ⟨a', c', w3, hrun, hj3, hb3, ho3, hc3⟩ := join_step (by omega) (by have := hcr.size; omega) hjB hbB hjO (Ch.alloc _ wr (.cells #[.string k1, .int .i64 v1, .int .i64 0, .bool true, .bool false] 52)) (leftB (k1, v1)) hlen
        dsimp only [leftB] at hrun
        rw [World.size_alloc] at hrun
        have cJ3 := hj3.cell
        have fJ3 := hj3.frozen
        have hbl := hjB.lt
        have HE := Lib.hid (join_end (by omega) hK hbR hbc hcV hcr hj3 hb3 ho3 hc3 HL.out (by rw [← hjoin, joinL_left]) HK1.out)
        rw [List.length_nil] at cB
        have cBA := (hbB.alloc (.cells #[.string k1, .int .i64 v1, .int .i64 0, .bool true, .bool false] 52)).cell
        have cJA := (hjB.alloc (.cells #[.string k1, .int .i64 v1, .int .i64 0, .bool true, .bool false] 52)).cell
        rw [List.length_nil] at cBA
        clear hbB hbR hbc hjB hjO hjR hjl hcV hjoin hcr hlen hj3 hb3 ho3 hc3
        gi_wp2
        refine ⟨trivial, ?_⟩
        gi_wp2
        refine ⟨trivial, ?_⟩
        gi_wp2
        exact HE.out
      case' cons =>
        obtain ⟨b, off, hba, hy1, hy2⟩ := hbR.up hcV 0 (by simp)
        subst hba
        rw [Nat.zero_mul, Nat.add_zero] at hy1 hy2
        rw [show ky ((yk, yv) :: bs) 0 = yk from rfl] at hy1
        rw [show vl ((yk, yv) :: bs) 0 = yv from rfl] at hy2
        rw [List.length_cons] at cB
        have hq0 : (0 : Int) < ((bs.length + 1 : Nat) : Int) := by omega
        gi_wp2
        refine ⟨trivial, (fun h => by cases h), ?_⟩
        refine (CallsIn.inRound l (callsIn_wide.2 (less_str yk k1 wr))).mono ?_
        rintro e V2 ⟨rfl, hV2⟩
        rw [hV2]
        clear hV2 V2
        cases hlt : lt yk k1 with
        | true =>
          have HLT := Lib.hid hlt
          clear hlt
          gi_wp2
          have hjBd : Boxed wr.drew (w.heap.size + 1) 47 (.slice ja js.length jc) := hjB
          have hlen : js.length ≤ 1000 := by
            have h1 := joinL_length xs zs
            have h2 := congrArg List.length hjoin
            rw [List.length_append] at h2
            omega
          have hstep : Hid (∀ w', Ch (fun _ => False) wr w' → _) := Lib.hid fun w' hc => join_step (by omega) (by have := hcr.size; omega) hjB hbB hjO hc (rightB (yk, yv)) hlen
          have HB := Lib.hid (And.intro hbB (And.intro hbR (And.intro hbc (And.intro hjO (And.intro hcV (And.intro hjoin hcr))))))
          clear hbB hbR hbc hjO hjR hjl hcV hjoin hcr hlen
          have hbl := hjB.lt
          gi_region_with_o (refine ⟨trivial, (fun h => by cases h), ?_⟩; refine (CallsIn.inRound l (callsIn_wide.2 (rightOnly_any yk yv _))).mono ?_; rintro e w' ⟨rfl, hc⟩; have cJ2 := (hc.boxed hjBd id).cell; have fJ2 := (hc.boxed hjBd id).frozen; have hbl2 := (hc.boxed hjBd id).lt; obtain ⟨a', c', w3, hrun, hj3, hb3, ho3, hc3⟩ := hstep.out w' ((Ch.drew _ wr).tr hc); have cJ3 := hj3.cell; have fJ3 := hj3.frozen; have cB3 := hb3.cell; have fB3 := hb3.frozen; dsimp only [rightB] at hrun; clear hc)
          all_goals clear cJ2 fJ2 hrun
          all_goals gi_wp2
          all_goals exact join_round (by omega) HB.out.1 HB.out.2.1 HB.out.2.2.1 HB.out.2.2.2.2.1 HB.out.2.2.2.2.2.1 HB.out.2.2.2.2.2.2 HLT.out hj3 hb3 ho3 hc3
        | false =>
          have HLT := Lib.hid hlt
          clear hlt
          have hlen : js.length ≤ 1000 := by
            have h1 := joinL_length xs zs
            have h2 := congrArg List.length hjoin
            rw [List.length_append] at h2
            omega
          have cBA := (hbB.alloc (.cells #[.string k1, .int .i64 v1, .int .i64 0, .bool true, .bool false] 52)).cell
          have cJA := (hjB.alloc (.cells #[.string k1, .int .i64 v1, .int .i64 0, .bool true, .bool false] 52)).cell
          rw [List.length_cons] at cBA
          have hc1 : Ch (fun _ => False) wr (wr.alloc (.cells #[.string k1, .int .i64 v1, .int .i64 0, .bool true, .bool false] 52)) := Ch.alloc _ _ _
          have hbw : b ≠ wr.heap.size := fun he => by have := cell_lt hy1; simp only at this; omega
          have hy1A : (wr.alloc (.cells #[.string k1, .int .i64 v1, .int .i64 0, .bool true, .bool false] 52)).cell? ⟨b, off, none⟩ = _ := hc1.cell hy1 id
          have hy2A : (wr.alloc (.cells #[.string k1, .int .i64 v1, .int .i64 0, .bool true, .bool false] 52)).cell? ⟨b, off + 1, none⟩ = _ := hc1.cell hy2 id
          have HB := Lib.hid (And.intro hbB (And.intro hbR (And.intro hbc (And.intro hjO (And.intro hcV (And.intro hjoin (And.intro hcr (And.intro hjB hlen))))))))
          have hbl := hjB.lt
          clear hbB hbR hbc hjO hjR hjl hcV hjoin hcr hlen hjB hc1
          gi_wp2
          refine ⟨trivial, (fun h => by cases h), ?_⟩
          refine (CallsIn.inRound l (callsIn_wide.2 (less_str k1 yk _))).mono ?_
          rintro e V2 ⟨rfl, hV2⟩
          rw [hV2]
          clear hV2 V2
          cases hlt : lt k1 yk with
          | true =>
            have HLT2 := Lib.hid hlt
            clear hlt
            obtain ⟨hbB, hbR, hbc, hjO, hcV, hjoin, hcr, hjB, hlen⟩ := HB.out
            obtain ⟨a', c', w3, hrun, hj3, hb3, ho3, hc3⟩ := join_step (by omega) (by have := hcr.size; omega) hjB hbB hjO (Ch.alloc _ wr (.cells #[.string k1, .int .i64 v1, .int .i64 0, .bool true, .bool false] 52)) (leftB (k1, v1)) hlen
            dsimp only [leftB] at hrun
            rw [World.size_alloc] at hrun
            have cJ3 := hj3.cell
            have fJ3 := hj3.frozen
            have HE := Lib.hid (join_end (by omega) hK hbR hbc hcV hcr hj3 hb3 ho3 hc3 HL.out (by rw [← hjoin, joinL_l _ _ HLT.out HLT2.out]) HK1.out)
            clear hbB hbR hbc hjO hcV hjoin hcr hjB hlen hj3 hb3 ho3 hc3
            gi_wp2
            exact HE.out
          | false =>
            have HLT2 := Lib.hid hlt
            clear hlt
            obtain ⟨hbB, hbR, hbc, hjO, hcV, hjoin, hcr, hjB, hlen⟩ := HB.out
            have hl1 : bs.length + 1 ≤ bc := by simpa using hbc
            have hb2 := hbB.alloc (.cells #[.string k1, .int .i64 v1, .int .i64 yv, .bool true, .bool true] 52)
            have hj2 := hjB.alloc (.cells #[.string k1, .int .i64 v1, .int .i64 yv, .bool true, .bool true] 52)
            have hrow := World.alloc_heap_new wr (.cells #[.string k1, .int .i64 v1, .int .i64 yv, .bool true, .bool true] 52)
            have hc2 : Ch (fun _ => False) wr (wr.alloc (.cells #[.string k1, .int .i64 v1, .int .i64 yv, .bool true, .bool true] 52)) := Ch.alloc _ _ _
            have hz2 : (wr.alloc (.cells #[.string k1, .int .i64 v1, .int .i64 yv, .bool true, .bool true] 52)).heap.size = wr.heap.size + 1 := World.size_alloc _ _
            have cB2 := hb2.cell
            have fB2 := hb2.frozen
            rw [List.length_cons] at cB2
            have hc4 : Ch (fun k => k = w.heap.size) (wr.alloc (.cells #[.string k1, .int .i64 v1, .int .i64 yv, .bool true, .bool true] 52)) ((wr.alloc (.cells #[.string k1, .int .i64 v1, .int .i64 yv, .bool true, .bool true] 52)).setCell ⟨w.heap.size, 0, none⟩ (.slice (if bc = 1 then some ⟨b, off, none⟩ else some ⟨b, off + 2, none⟩) bs.length (bc - 1))) := Ch.setCell _ _ _ fun _ => rfl
            have hb4 := hb2.set (.slice (if bc = 1 then some ⟨b, off, none⟩ else some ⟨b, off + 2, none⟩) bs.length (bc - 1))
            have hj4 := hc4.boxed hj2 (by omega)
            have hrow4 := (hc4.block wr.heap.size (by omega) (by omega)).trans hrow
            have hz4 := hc4.size
            have hsr := hcr.size
            have hc24 : Ch (fun k => k = w.heap.size) wr _ := (hc2.mono fun _ _ h => h.elim).tr hc4
            obtain ⟨a', c', w3, hrun, hj3, hb3, ho3, hc3⟩ := join_step (by omega) (by omega) hj4 hb4 ((hjO.keep hc2 (fun _ _ _ => id)).keep hc4 (fun k h1 _ h2 => by omega)) (Ch.refl _ _) (bothB (k1, v1) (yk, yv)) hlen
            dsimp only [bothB] at hrun
            rw [show ((wr.alloc (.cells #[.string k1, .int .i64 v1, .int .i64 yv, .bool true, .bool true] 52)).setCell ⟨w.heap.size, 0, none⟩ (.slice (if bc = 1 then some ⟨b, off, none⟩ else some ⟨b, off + 2, none⟩) bs.length (bc - 1))).heap.size = wr.heap.size + 1 by simp] at hrun
            have cJ3 := hj3.cell
            have fJ3 := hj3.frozen
            have cJ4 := hj4.cell
            have HE := Lib.hid (join_end (by omega) hK (hbR.tail hl1) (by omega) (hcV.trans hc24 (fun j _ h => by omega)) (hcr.trans hc24 (fun j _ h => .inl h)) hj3 hb3 ho3 hc3 HL.out (by rw [← hjoin, joinL_b _ _ HLT.out HLT2.out]) HK1.out)
            clear hbB hbR hbc hjO hcV hjoin hcr hjB hlen hj3 hb3 ho3 hc3 hc24 hj4 hb4 hc4 hc2 hj2 hb2 hrow hz4 hsr hz2
            by_cases hbc1 : bc = 1
            · subst hbc1
              simp only [if_true, Nat.sub_self] at hrun cJ4 hrow4
              clear hl1
              gi_wp2
              exact HE.out
            · rw [if_neg hbc1] at hrun cJ4 hrow4
              gi_wp2
              exact HE.out)
  case done =>
    rintro D M W hD hDM hMW ⟨js, bs, ⟨⟨ba, bc, hbB, hbR, hbc⟩, ⟨v0, hjB, hjO⟩, hcV⟩, hI⟩ _ hd
    have hmx : Try.prog.follows .mixedOrders = true := by kernel_rfl
    rw [hz0] at hD
    have hjoin : js ++ bs.map rightB = joinL xs zs := by
      have := hI.1
      rwa [List.drop_length, joinL_nil] at this
    have hlen : js.length + bs.length ≤ 1000 := by
      have h1 := joinL_length xs zs
      have h2 := congrArg List.length hjoin
      rw [List.length_append, List.length_map] at h2
      omega
    have cB := hbB.cell
    clear hI
    gi_wp2
    gi_loopw [79] (fun i wr => ∃ (ii : Nat), i = .int .i64 (ii : Int) ∧ ii ≤ bs.length ∧ (∃ v, Boxed wr (w.heap.size + 1) 47 v ∧ OwB wr M 52 v (js ++ (bs.take ii).map rightB)) ∧ Ch (fun k => k = w.heap.size + 1 ∨ M ≤ k) W wr) (fun i _ => bs.length - (intOf i).toNat)
    case atStart => exact ⟨0, rfl, Nat.zero_le _, ⟨v0, hjB, by simpa using hjO⟩, Ch.refl _ _⟩
    case round =>
      obtain ⟨ii, rfl, hi, ⟨v, hjr, hor⟩, hcr⟩ := hrel
      have cJ := hjr.cell
      by_cases hlt : ii < bs.length
      · have hlt' : (ii : Int) < (bs.length : Int) := by omega
        have hi0 : (0 : Int) ≤ (ii : Int) := by omega
        have hcw : Ch (fun k => w.heap.size ≤ k) w wr := hcV.trans hcr (fun j _ h => by omega)
        obtain ⟨b, off, hba, hy1, hy2⟩ := hbR.up hcw ii hlt
        subst hba
        have HT := Lib.hid (take_right bs ii hlt)
        generalize ky bs ii = yk at hy1 HT
        generalize vl bs ii = yv at hy2 HT
        have hjl : (js ++ (bs.take ii).map rightB).length ≤ 1000 := by simp; omega
        generalize hjj : js ++ (bs.take ii).map rightB = jj at hor hjl
        have HJJ := Lib.hid hjj
        clear hjj
        obtain ⟨ja, jc, rfl, _⟩ := hor.rd
        have hstep : Hid (∀ w', Ch (fun _ => False) wr w' → _) := Lib.hid fun w' hc => join_step (by omega) (by have := hcr.size; omega) hjr (hcr.boxed hbB (by omega)) hor hc (rightB (yk, yv)) hjl
        have hja := hjr.alloc (.cells #[.string yk, .int .i64 yv] 55)
        have hjd : Boxed (wr.alloc (.cells #[.string yk, .int .i64 yv] 55)).drew (w.heap.size + 1) 47 (.slice ja jj.length jc) := hja
        have hca : Ch (fun _ => False) wr (wr.alloc (.cells #[.string yk, .int .i64 yv] 55)).drew := (Ch.alloc _ _ _).tr (Ch.drew _ _)
        have cJa := hja.cell
        have hbl := hjr.lt
        have HB := Lib.hid (And.intro hcr (And.intro hor hjl))
        clear hcr hor hjl hcw
        gi_wp2
        gi_region_with_o (refine ⟨trivial, ?_⟩; refine (callsIn_wide.2 (rightOnly_any yk yv _)).mono ?_; rintro e w' ⟨rfl, hc⟩; have cJ2 := (hc.boxed hjd id).cell; have hbl2 := (hc.boxed hjd id).lt; obtain ⟨a', c', w4, hrun, hj3, hb3, ho3, hc3⟩ := hstep.out w' (hca.tr hc); have cJ3 := hj3.cell; have fJ3 := hj3.frozen; dsimp only [rightB] at hrun; clear hc)
        all_goals clear cJ2 hrun
        all_goals gi_wp2
        all_goals (
          have hs : Ch (fun k => k = w.heap.size + 1) w4 (w4.setCell ⟨w.heap.size + 1, 0, none⟩ (.slice a' (jj.length + 1) c')) := Ch.setCell _ _ _ fun _ => rfl
          refine ⟨⟨ii + 1, by go_num, by omega, ⟨_, hj3.set _, ?_⟩, ?_⟩, by simp [intOf]; omega⟩
          · rw [HT.out, ← List.append_assoc, HJJ.out]
            exact ho3.keep hs (fun k h1 _ h2 => by omega)
          · exact (HB.out.1.trans hc3 (fun j _ h => .inr h)).trans hs (fun j _ h => .inl h))
      · have hlt' : (bs.length : Int) ≤ (ii : Int) := by omega
        have hii : bs.take ii = bs := List.take_of_length_le (by omega)
        rw [hii, hjoin] at hor
        clear hii
        gi_wp2
        have hd' : wr.heap[D]? = some (.deferred (some [])) := (hcr.block D (by omega) (by omega)).trans hd
        refine ⟨by simp, .inl ⟨_, _, rfl, run_takeDeferred hd', ?_⟩⟩
        have hp : Ch (fun k => k = D) wr (wr.putObj D (.deferred none)) := Ch.putObj _ _ _ fun _ => rfl
        refine ⟨_, results_tmp rfl _ _ _, v, rfl, (hor.keep hp (fun k h1 _ h2 => by omega)).base (by omega), ?_⟩
        exact ((hcV.trans hcr (fun j _ h => by omega)).trans hp (fun j _ h => by omega)).mono fun j hj h => by omega
  case stop =>
    rintro D M c pre W _ _ _ _ h
    exact h.elim
end Go.Proofs.Ytlgamaldngkdnaa
