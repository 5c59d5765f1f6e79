/- Walks of Clone, Of and its run. -/
import Derived.Test.YtlgamaldngkdnaaPairs
namespace Go.Proofs.Ytlgamaldngkdnaa
open Go Go.RowKit Go.Shelf
attribute [local go_sem] Oper.semAt_some

theorem eql_nil27 (a : Option Addr) (l c : Nat) (w : World) : (binOp .eql 27 (.slice a l c) (.slice none 0 0)).run Try.prog w = .ok (.bool a.isNone) w := by
  simp only [binOp]
  simp [run_equal_slice_nil w 27 55 a l c Try.underlying27]
theorem eqIn_nil (d : Nat) (t : TypeId) (ps rs : Array TypeId) (vv : Bool) (ht : Try.prog.underlying t = some (.func ps rs vv)) (f : Fn) (ts : Array Value) (lb : Array Value) (w : World) : (Op.equalIn (d + 1) t (.func f ts lb) .nilFunc).run Try.prog w = .ok false w := by
  simp [Op.equalIn, run_underlying ht]
theorem eql_nil25 (f : Fn) (ts : Array Value) (lb : Array Value) (w : World) : (binOp .eql 25 (.func f ts lb) .nilFunc).run Try.prog w = .ok (.bool false) w := by
  have h : (Op.equal 25 (.func f ts lb) .nilFunc).run Try.prog w = .ok false w := eqIn_nil 9999 25 _ _ _ Try.underlying25 f ts lb w
  simp only [binOp]
  simp [h]
theorem eql_nil32 (f : Fn) (ts : Array Value) (lb : Array Value) (w : World) : (binOp .eql 32 (.func f ts lb) .nilFunc).run Try.prog w = .ok (.bool false) w := by
  have h : (Op.equal 32 (.func f ts lb) .nilFunc).run Try.prog w = .ok false w := eqIn_nil 9999 32 _ _ _ Try.underlying32 f ts lb w
  simp only [binOp]
  simp [h]

set_option maxRecDepth 100000 in
set_option maxHeartbeats 400000 in
theorem clone_any (base : Nat) (v : Value) (xs : List Pr) (hn : xs.length ≤ 1000) (w : World) (hv : Ow w base 55 v xs) :
    Calls Try.prog 31 #[v] w fun e w' => ∃ v', e = .returned v' ∧ Ow w' w.heap.size 55 v' xs ∧ Ch (fun _ => False) w w' := by
  have hnil := eql_nil27
  rcases hv.2 with ⟨rfl, h0⟩ | ⟨g, cap, cur, rfl, hb, hg, hnc, hcm, hcs, ht⟩
  · have hx : xs = [] := List.length_eq_zero_iff.1 h0
    subst hx
    clear hv h0
    go_enter Try.func31, Try.ntmps31
    go_wp2
    go_ret
    exact ⟨_, rfl, Ow.nil _ _ _, Ch.refl _ _⟩
  · obtain ⟨i0, hi, hz0, hz1, hz2⟩ := info_parts Try.info55
    have HI := Lib.hid (And.intro hi (And.intro hz0 (And.intro hz1 hz2)))
    have HC := Lib.hid (And.intro hg (And.intro hcs ht))
    have hgl := (Array.getElem?_eq_some_iff.1 hg).1
    clear hi hz0 hz1 hz2 hv hg hcs ht
    go_enter Try.func31, Try.ntmps31
    go_wp2_with (at_builtin; refine wpList_append_own _ rfl (.tmp 5) (.tmp 6) 27 rfl w.heap.size 55 i0 _ 2 24 Try.underlying27 HI.out.1 HI.out.2.1 HI.out.2.2.1 HI.out.2.2.2 rfl (by decide) (.slice (some ⟨w.heap.size, 0, none⟩) 0 0) 0 [] rfl (World.ownsRow_made w #[] 0 (Nat.le_refl _) (by decide) rfl) ⟨g, 0, none⟩ xs.length cap (cellsP xs) rfl (cellsP_length xs) ?c1 ?c2 ?c3 ?c4 ?c5 ?_)
    case c1 =>
      intro j y hj
      have e : (⟨g, 0, none⟩ : Addr).add j = ⟨g, j, none⟩ := by unfold Addr.add; split <;> simp_all
      have hj' : j < xs.length * 2 := by have := (List.getElem?_eq_some_iff.1 hj).1; rwa [cellsP_length] at this
      rw [e, cell_of_row _ _ _ _ _ _ ((Below.heap_alloc _ _ _ hgl).trans HC.out.1), ← Array.getElem?_toList, ← hj, ← HC.out.2.2, List.getElem?_take_of_lt hj']
    case c2 =>
      intro y hy
      obtain ⟨p, _, hp⟩ := List.mem_flatMap.1 hy
      simp only [List.mem_cons, List.not_mem_nil, or_false] at hp
      rcases hp with rfl | rfl <;> rfl
    case c3 => unfold maxLen; omega
    case c4 => omega
    case c5 => simp
    intro v' w3 hown3 hgr3 _
    have hch3 : Ch (fun _ => False) w w3 := (Ch.alloc _ w _).trans (Ch.of_grown (S := fun k => w.heap.size ≤ k) hgr3 (fun k hk => by simp [Value.ownBlock] at hk; omega)) (fun j hj h => by omega)
    have hO : Ow w3 w.heap.size 55 v' xs := by
      unfold Ow
      exact hown3
    clear hown3 hgr3
    go_wp2
    go_ret
    exact ⟨_, rfl, hO, hch3⟩

set_option maxRecDepth 100000 in
set_option maxHeartbeats 400000 in
theorem orEmpty_any (f : Fn) (ts : Array Value) (lb : Array Value) (w : World) :
    Calls Try.prog 34 #[.func f ts lb] w fun e w' => e = .returned (.func f ts lb) ∧ w' = w := by
  have hnil := eql_nil25
  go_enter Try.func34, Try.ntmps34
  go_wp2
  go_ret
  exact ⟨rfl, rfl⟩

/-- A run through a list: the box of its slice, and the slice. -/
def OfG (b base : Nat) (v : Value) (xs : List Pr) (W : World) : Prop := Boxed W b 27 v ∧ Ow W base 55 v xs
def OfK (b : Nat) (v : Value) (k : Nat) : Prop := k = b ∨ v.ownBlock = some k
def ofRun (b : Nat) : Value := .func (.func 32) #[] #[.pointer (some ⟨b, 0, none⟩)]
set_option maxRecDepth 100000 in
set_option maxHeartbeats 400000 in
theorem of_any (base : Nat) (v : Value) (xs : List Pr) (hn : xs.length ≤ 1000) (w : World) (hv : Ow w base 55 v xs) :
    Calls Try.prog 10 #[v] w fun e w' => ∃ b v', e = .returned (ofRun b) ∧ w.heap.size ≤ b ∧ OfG b w.heap.size v' xs w' ∧ Ch (fun _ => False) w w' := by
  have hc := clone_any base v xs hn w hv
  clear hv
  go_enter Try.func10, Try.ntmps10
  go_wp2_with fail
  refine hc.mono ?_
  rintro e w1 ⟨v', rfl, hO, hch⟩
  clear hc
  obtain ⟨a, cap, rfl, _⟩ := hO.rd
  have hz := hch.size
  go_wp2
  go_ret
  refine ⟨w1.heap.size, .slice a xs.length cap, rfl, hz, ⟨?_, ?_⟩, ?_⟩
  · exact Boxed.new w1 27 _
  · exact hO.keep (Ch.alloc (fun _ => False) w1 _) (fun _ _ _ => id)
  · exact hch.tr (Ch.alloc _ w1 _)

def enc2 (p : Pr) : Array Value := #[.string p.1, .int .i64 p.2]
theorem ofG_stab (b base : Nat) (v : Value) (xs : List Pr) : Stab (fun k => ¬ OfK b v k) (OfG b base v xs) := fun A B h hc =>
  ⟨hc.boxed h.1 (fun hn => hn (.inl rfl)), by
    refine ⟨h.2.1, ?_⟩
    rcases h.2.2 with h2 | ⟨g, cap, cur, hv, hb, hg, r⟩
    · exact .inl h2
    · exact .inr ⟨g, cap, cur, hv, hb, (hc.block g (Array.getElem?_eq_some_iff.1 hg).1 (fun hn => hn (.inr (by rw [hv]; rfl)))).trans hg, r⟩⟩
theorem prefix_take (xs : List Pr) (i : Nat) : xs.take i <+: xs := List.take_prefix i xs
set_option maxRecDepth 100000 in
set_option maxHeartbeats 400000 in
theorem of_iter (b base : Nat) (v : Value) (xs : List Pr) (hn : xs.length ≤ 1000) : Iter Try.prog 32 #[.pointer (some ⟨b, 0, none⟩)] enc2 (OfK b v) (fun _ => False) xs (OfG b base v xs) (fun _ => OfG b base v xs) := by
  intro l J Jx W n _ _ hJ hJx hY h0 hG
  obtain ⟨a, cap, rfl, _⟩ := hG.2.rd
  have hbc := hG.1.cell
  refine callsIn_of_wp Try.func32 rfl trivial ?_ rfl
  simp only [Try.ntmps32, List.size_toArray, List.length_cons, List.length_nil, Nat.reduceAdd, Nat.reduceSub, Array.replicate_succ, Array.replicate_zero, List.push_toArray, List.append_toArray, List.nil_append, List.cons_append]
  gi_wp2
  clear hbc
  gi_loopw [7] (fun i wr => ∃ (ii M : Nat), i = .int .i64 (ii : Int) ∧ ii ≤ xs.length ∧ W.heap.size ≤ M ∧ M ≤ wr.heap.size ∧ J M (xs.take ii) wr ∧ OfG b base (.slice a xs.length cap) xs wr) (fun i _ => xs.length - (intOf i).toNat)
  case atStart => exact ⟨0, W.heap.size, rfl, Nat.zero_le _, Nat.le_refl _, Nat.le_refl _, h0 W (Ch.refl _ _), hG⟩
  case round =>
    clear hG
    obtain ⟨ii, M, rfl, hi, hM1, hM2, hJ1, hG⟩ := hrel
    by_cases hlt : ii < xs.length
    · have hlt' : (ii : Int) < (xs.length : Int) := by omega
      have hi0 : (0 : Int) ≤ (ii : Int) := by omega
      obtain ⟨a', cap', ha, hrd, _⟩ := hG.2.rd
      obtain ⟨rfl, rfl⟩ : a = a' ∧ cap = cap' := by injection ha with h1 h2 h3; exact ⟨h1, h3⟩
      obtain ⟨bb, off, rfl, hc1, hc2⟩ := hrd ii hlt
      have HT := take_succ_pr xs ii hlt
      have hpre : (xs.take ii ++ [(ky xs ii, vl xs ii)]) <+: xs := by rw [← HT]; exact prefix_take _ _
      have hY1 := fun m => hY M (xs.take ii) (ky xs ii, vl xs ii) (wr.alloc (.cells #[.string (ky xs ii), .int .i64 (vl xs ii)] 55)) m hM1 (by simp; omega) (hJ M _ hM1 _ _ hJ1 (Ch.alloc _ _ _)) hpre
      clear hrd hpre ha
      unfold enc2 at hY1
      dsimp only at hY1
      generalize ky xs ii = kk at hc1 HT hY1
      generalize vl xs ii = vv at hc2 HT hY1
      have HTT := Lib.hid HT
      clear HT
      obtain ⟨fn, tmps, assign, body, hy, hR⟩ := hY1 (n - 1)
      clear hY1
      gi_wp2
      refine ⟨(fun h => by cases h), ?_⟩
      refine hR.mono ?_
      clear hR hy
      have hGa := ofG_stab b base _ xs _ _ hG (Ch.alloc _ wr (.cells #[.string kk, .int .i64 vv] 55))
      rintro e W3 (⟨rfl, hJ3, hc3⟩ | ⟨rfl, hJx3, hc3⟩)
      · have hG3 := ofG_stab b base _ xs _ _ hGa (hc3.mono fun j _ h => h.1)
        have hz3 := hc3.size
        rw [World.size_alloc] at hz3
        clear hc1 hc2 hG hGa hc3 hJ1
        gi_wp2
        go_roundw
        case rel => exact ⟨ii + 1, M, by go_num, by omega, hM1, by omega, by rw [HTT.out]; exact hJ3, hG3⟩
        case measure => simp [intOf]; omega
      · have hG3 := ofG_stab b base _ xs _ _ hGa (hc3.mono fun j _ h => h.1)
        have hz3 := hc3.size
        rw [World.size_alloc] at hz3
        clear hc1 hc2 hG hGa hc3 hJ1
        gi_wp2
        refine bodyPost_ret (results_none rfl _ _ _) rfl ?_
        exact ⟨⟨_, rfl⟩, M, hM1, by omega, .inr ⟨_, by rw [← HTT.out]; exact prefix_take _ _, hJx3, hG3⟩⟩
    · have hlt' : (xs.length : Int) ≤ (ii : Int) := by omega
      have hx : xs.take ii = xs := List.take_of_length_le (by omega)
      rw [hx] at hJ1
      clear hx
      gi_wp2
      go_end0
      exact ⟨⟨_, rfl⟩, M, hM1, hM2, .inl ⟨hJ1, hG⟩⟩

set_option maxRecDepth 100000 in
set_option maxHeartbeats 400000 in
/-- List of a run. -/
theorem list_any {gf : Nat} {lb : Array Value} (eg : ∀ args w, (callFunc gf args).run Try.prog w = .ok (.enter gf args) w) {K T : Nat → Prop} {xs : List Pr} {Gs : World → Prop} {G : List Pr → World → Prop} (hit : Iter Try.prog gf lb enc2 K T xs Gs G) (hn : xs.length ≤ 1000) (w : World)
    (hK : ∀ k, K k → k < w.heap.size) (hT : ∀ k, T k → k < w.heap.size) (hGs : ∀ pre, Stab (fun k => ¬ K k) (G pre)) (hGss : Stab (fun k => ¬ K k) Gs) (hG : Gs w) :
    Calls Try.prog 17 #[.func (.func gf) #[] lb] w fun e w' => ∃ v, e = .returned v ∧ Ow w' w.heap.size 55 v xs ∧ G xs w' ∧ Ch T w w' := by
  refine (callsIn_wide (n := 3)).1 ?_
  refine callsIn_of_wp_marks Try.func17 rfl trivial ?_ rfl
  simp only [Try.ntmps17, List.size_toArray, List.length_cons, List.length_nil, Nat.reduceAdd, Nat.reduceSub, Array.replicate_succ, Array.replicate_zero, List.push_toArray, List.append_toArray, List.nil_append, List.cons_append]
  gi_wp2_with (refine ⟨trivial, ?_⟩; gi_at_call 34; refine (callsIn_wide.2 (orEmpty_any (.func gf) #[] lb _)).mono ?_; rintro e w' ⟨rfl, rfl⟩)
  have hx0 := Boxed.new w 27 (.slice none 0 0)
  have hz0 : (w.alloc (.cells #[.slice none 0 0] 27)).heap.size = w.heap.size + 1 := by simp
  refine wpIn_range (K := K) (T := T) (xs := xs) (Gs := Gs) (G := G) (gf := gf) (lb := lb) rfl eg hit (fun _ => rfl) (fun k hk => by have := hK k hk; omega) (fun k hk => by have := hT k hk; omega) hGs hGss (hGss _ _ hG (Ch.alloc _ w _))
    (fun M pre W => (∃ v, Boxed W w.heap.size 27 v ∧ Ow W M 55 v pre) ∧ Ch (fun k => T k ∨ w.heap.size ≤ k) w W) (fun _ _ _ _ => False) ?hI ?hIx ?h0
    (fun x => { tmps := #[.func (.func gf) #[] lb, undef, .slice none 0 0, .pointer (some ⟨w.heap.size, 0, none⟩), .string x.1, .int .i64 x.2, .func (.func gf) #[] lb, .func (.func gf) #[] lb, .string x.1, .int .i64 x.2, undef, undef, undef, undef, undef, undef, undef], defers := [] }) ?assign ?body ?done ?stop
  case hI =>
    rintro M pre hM A B ⟨⟨v, hb, ho⟩, hc⟩ hch
    rw [hz0] at hM
    refine ⟨⟨v, hch.boxed hb ?_, ho.keep hch ?_⟩, hc.trans hch ?_⟩
    · rintro (h | h)
      · have := hT _ h; omega
      · rw [hz0] at h; omega
    · rintro k h1 h2 (h | h)
      · have := hT _ h; omega
      · rw [hz0] at h; omega
    · rintro j hj (h | h)
      · exact .inl h
      · rw [hz0] at h; omega
  case hIx => exact fun _ _ _ _ _ _ h _ => h
  case h0 =>
    intro W' hc
    refine ⟨⟨_, hc.boxed hx0 (fun h => by have := hT _ h; omega), Ow.nil _ _ _⟩, (Ch.alloc _ w _).trans hc (fun j hj h => .inl h)⟩
  case assign =>
    intro m l x W Kk hK
    simp only [enc2]
    gi_wp2
    exact hK
  case body =>
    rintro m l M pre x W hM1 hM2 ⟨⟨v, hb, ho⟩, hc⟩ hpre
    rw [hz0] at hM1 ⊢
    obtain ⟨kk, vv⟩ := x
    have hlen : pre.length + 1 ≤ 1000 := by have := hpre.length_le; simp at this; omega
    have hcell := hb.cell
    have hbl := hb.lt
    have hoa := ho.keep (Ch.alloc (fun _ => False) W (.cells #[.string kk, .int .i64 vv] 55)) (fun _ _ _ => id)
    obtain ⟨a, cap, rfl, _⟩ := ho.rd
    have hown : ∀ k, (Value.slice a pre.length cap).ownBlock = some k → M ≤ k ∧ k < W.heap.size := ho.own
    gi_wp2_with (gi_at_builtin; refine wpListIn_pair rfl (.tmp 10) (.tmp 14) 27 55 rfl Try.underlying27 Try.info55 M (.slice a pre.length cap) pre rfl hoa W.heap.size kk vv rfl (World.alloc_heap_new W _) (by omega) (by simp; omega) ?_; intro v' w3 hown3 hc3; obtain ⟨a', cap', rfl, _⟩ := hown3.rd; have hb3 : Boxed w3 w.heap.size 27 (.slice a pre.length cap) := (hc3.boxed (hb.alloc _) (fun h => by have := (hown _ h).1; omega)); have hcell3 := hb3.cell; have hfz3 := hb3.frozen)
    have hWw : Ch (fun k => k = w.heap.size ∨ M ≤ k) W (w3.setCell ⟨w.heap.size, 0, none⟩ (.slice a' (pre ++ [(kk, vv)]).length cap')) :=
      ((Ch.alloc _ W _).trans hc3 (fun j _ h => .inr (hown j h).1)).tr (Ch.setCell _ _ _ fun _ => .inl rfl)
    have hl : (pre ++ [(kk, vv)]).length = pre.length + 1 := by simp
    rw [hl] at hWw hown3
    refine ⟨hWw.mono ?_, ⟨⟨_, hb3.set _, hown3.keep (Ch.setCell (S := fun k => k = w.heap.size) _ _ _ fun _ => rfl) ?_⟩, hc.trans hWw ?_⟩⟩
    · rintro j _ (h | h)
      · exact ⟨fun hk => by have := hK _ hk; omega, fun hk => by omega⟩
      · exact ⟨fun hk => by have := hK _ hk; omega, fun hk => by omega⟩
    · intro k h1 _ h2; omega
    · rintro j hj (h | h)
      · exact .inr (by omega)
      · exact .inr (by omega)
  case done =>
    rintro D M W hD hDM hMW ⟨⟨v, hb, ho⟩, hc⟩ hg hd
    have hcell := hb.cell
    rw [hz0] at hD
    gi_wp2
    refine ⟨by simp, .inl ⟨_, _, rfl, run_takeDeferred hd, ?_⟩⟩
    have hp : ∀ S : Nat → Prop, S D → Ch S W (W.putObj D (.deferred none)) := fun S h => Ch.putObj _ _ _ fun _ => h
    refine ⟨_, results_tmp rfl _ _ _, v, rfl, ?_, ?_, ?_⟩
    · have h1 : Ow W w.heap.size 55 v xs := ⟨ho.1, ho.2.imp id fun ⟨g, cap, cur, h1, h2, h3⟩ => ⟨g, cap, cur, h1, by omega, h3⟩⟩
      refine ⟨h1.1, ?_⟩
      rcases ho.2 with h2 | ⟨g, cap, cur, hv, hgM, hg3, r⟩
      · exact .inl h2
      · exact .inr ⟨g, cap, cur, hv, by omega, (World.putObj_heap_other (by omega)).trans hg3, r⟩
    · exact hGs xs _ _ hg (hp _ fun hk => by have := hK _ hk; omega)
    · exact (hc.trans (hp (fun k => k = D) rfl) (fun j hj h => .inr (by omega))).mono fun j hj h => by
        rcases h with h | h
        · exact h
        · omega
  case stop =>
    rintro D M c pre W _ _ _ _ h
    exact h.elim
end Go.Proofs.Ytlgamaldngkdnaa
