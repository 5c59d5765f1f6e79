/- append of a pair: whose block the slice lies in then. The list of a run. -/
import Derived.Test.YtfjlkphpeneahaaDoorTBase
import Derived.Laws.OwnMore
import Derived.Test.YtfjlkphpeneahaaDoorM7
namespace Go.Proofs.YtfjlkphpeneahaaDoor
open Go Go.RowKit

theorem pair_run (w : World) (t ty e : TypeId) (ht : Tryd.prog.underlying t = some (.slice e)) (he : (Tryd.prog.info? e).map (fun i => (i.zero, i.size, i.bytes)) = some (some (.agg #[.string ByteArray.empty, .string ByteArray.empty]), 2, 32))
    (base : Nat) (v : Value) (xs : List It) (hown : OwP w base e v xs) (g : Nat) (n : It) (hrow : w.heap[g]? = some (.cells #[.string (txt n.1), .string (txt n.2)] e (0, 0))) (hlen : xs.length + 1 ≤ 100000000) (hbase : base ≤ w.heap.size) :
    ∃ v' w', (Builtin.append_ #[t, t] ty #[v, .slice (some ⟨g, 0, none⟩) 1 1]).run Tryd.prog w = .ok v' w' ∧ OwP w' base e v' (xs ++ [n]) ∧ Ch (fun j => v.ownBlock = some j) w w' ∧ ∀ k, v'.ownBlock = some k → v.ownBlock = some k ∨ w.heap.size ≤ k := by
  obtain ⟨i0, hi, hz0, hz1, hz2⟩ := info_parts he
  have hc : ∀ j u, ([.string (txt n.1), .string (txt n.2)] : List Value)[j]? = some u → w.cell? ((⟨g, 0, none⟩ : Addr).add j) = some u := by
    intro j y hj
    rw [add0, cell_of_row _ _ _ _ _ _ hrow]
    simpa using hj
  have h1 : ∀ u ∈ ([.string (txt n.1), .string (txt n.2)] : List Value), u.oneCell' = true := by
    intro y hy
    simp only [List.mem_cons, List.not_mem_nil, or_false] at hy
    rcases hy with rfl | rfl <;> rfl
  have hb : (xs.length + 1) * 32 ≤ 140737488355328 := by omega
  have hm : xs.length + 1 ≤ maxLen := by unfold maxLen; omega
  obtain ⟨v', w', hrun, r1, r2, r3⟩ := run_append_own (P := Tryd.prog) w base t ty e i0 _ 2 32 ht hi hz0 hz1 hz2 rfl (by decide) v xs.length (cellsI xs) hown ⟨g, 0, none⟩ 1 1 [.string (txt n.1), .string (txt n.2)] (by simp) hc h1 hm hb hbase
  refine ⟨v', w', hrun, ?_, Ch.of_grown r2 fun k hk => hk, ?_⟩
  · unfold OwP
    rw [cellsI_append, List.length_append]
    exact r1
  · intro k hk
    rcases hown.2 with ⟨hv, h0⟩ | ⟨g0, cap, cur, hv, hbg, hg, hnc, hcm, hcs, htk⟩
    · have hx : xs = [] := List.length_eq_zero_iff.1 h0
      subst hx
      obtain ⟨v2, w2, hrun2, q1, q2, q3⟩ := run_append_own (P := Tryd.prog) w w.heap.size t ty e i0 _ 2 32 ht hi hz0 hz1 hz2 rfl (by decide) (.slice none 0 0) 0 [] (World.ownsRow_nil _ _ _ _) ⟨g, 0, none⟩ 1 1 [.string (txt n.1), .string (txt n.2)] (by simp) hc h1 hm hb (Nat.le_refl _)
      rw [hv, hrun2] at hrun
      injection hrun with e1 e2
      subst e1
      exact .inr (q1.lt k hk).1
    · by_cases hr : xs.length + 1 ≤ cap
      · obtain ⟨w2, hrun2, _⟩ := run_append_fits (P := Tryd.prog) w base t ty e i0 2 ht hi hz1 g0 xs.length cap (cellsI xs) (hv ▸ hown) ⟨g, 0, none⟩ 1 1 [.string (txt n.1), .string (txt n.2)] (by simp) hc h1 hr
        rw [hv, hrun2] at hrun
        injection hrun with e1 e2
        subst e1
        left
        rw [hv]
        exact hk
      · have holds : ∀ j u, (cellsI xs)[j]? = some u → w.cell? ((⟨g0, 0, none⟩ : Addr).add j) = some u := by
          intro j u hj
          have hjl : j < xs.length * 2 := by have := (List.getElem?_eq_some_iff.1 hj).1; rwa [cellsI_length] at this
          rw [add0, cell_of_row _ _ _ _ _ _ hg, ← Array.getElem?_toList]
          rw [← htk] at hj
          rwa [List.getElem?_take_of_lt hjl] at hj
        have hrun2 := run_append_grow (P := Tryd.prog) w t ty e i0 _ ht hi hz0 ⟨g0, 0, none⟩ xs.length cap (cellsI xs) (by rw [hz1]; exact cellsI_length xs) holds ⟨g, 0, none⟩ 1 1 [.string (txt n.1), .string (txt n.2)] (by rw [hz1]; rfl) hc (by omega) (by omega) (by rw [hz2]; exact growslice_fits (by omega) hb)
        rw [hv, hrun2] at hrun
        injection hrun with e1 e2
        subst e1
        right
        have : w.heap.size = k := Option.some.inj hk
        omega
/-- append of one pair, in a round. -/
theorem wpListIn_pairB {F : Fence} {m : Nat} {w : World} {o : Oper} {a : Act} {Q : Exit → Act → World → Prop} {ops : Array Oper} {rest : List Oper} (hgd : o.guard = none) (s x : Operand) (t e : TypeId) (ho : o.op = .call { callee := .builtin .append, args := #[s, x], argTypes := #[t, t] })
    (ht : Tryd.prog.underlying t = some (.slice e)) (he : (Tryd.prog.info? e).map (fun i => (i.zero, i.size, i.bytes)) = some (some (.agg #[.string ByteArray.empty, .string ByteArray.empty]), 2, 32))
    (base : Nat) (v : Value) (xs : List It) (hs : a.eval s = v) (hown : OwP w base e v xs) (g : Nat) (n : It)
    (hx : a.eval x = .slice (some ⟨g, 0, none⟩) 1 1) (hrow : w.heap[g]? = some (.cells #[.string (txt n.1), .string (txt n.2)] e (0, 0))) (hlen : xs.length + 1 ≤ 100000000) (hbase : base ≤ w.heap.size)
    (h : ∀ v' w', OwP w' base e v' (xs ++ [n]) → Ch (fun j => v.ownBlock = some j) w w' → (∀ k, v'.ownBlock = some k → v.ownBlock = some k ∨ w.heap.size ≤ k) → wpListIn F m Tryd.prog ops Q rest (a.put o.dst v') w') : wpListIn F m Tryd.prog ops Q (o :: rest) a w := by
  refine wpListIn_plain hgd fun K hK' => ?_
  obtain ⟨v', w', hrun, r1, r2, r3⟩ := pair_run w t o.type e ht he base v xs hown g n hrow hlen hbase
  unfold Oper.wpIn
  refine ⟨by simp [Oper.about, ho, resolve, Target.leads, Sem.run_pure], ?_⟩
  rw [Oper.semAt_plain F _ _ (by rw [ho]; intro c hc'; cases hc')]
  simp [execOp, ho, resolve, invoke, builtin, hs, hx, hrun, Result.andThen]
  exact hK' _ _ (h v' w' r1 r2 r3)
end Go.Proofs.YtfjlkphpeneahaaDoor
namespace Go.Proofs.YtfjlkphpeneahaaDoor
open Go Go.RowKit Go.Shelf
attribute [local go_sem] Oper.semAt_some

set_option maxRecDepth 100000 in
set_option maxHeartbeats 1000000 in
/-- List of a run. -/
theorem list_any {gf : Nat} {lb : Array Value} (eg : ∀ args w, (callFunc gf args).run Tryd.prog w = .ok (.enter gf args) w) {K : Nat → Prop} {xs : List It} {Gs : World → Prop} (hit : IterR Tryd.prog gf lb EncP K (fun _ => False) xs Gs (fun _ => Gs)) (hn : xs.length ≤ 1000000) (w : World)
    (hK : ∀ k, K k → k < w.heap.size) (hGss : Stab (fun k => ¬ K k) Gs) (hG : Gs w) :
    Calls Tryd.prog 21 #[.func (.func gf) #[] lb] w fun e w' => ∃ v, e = .returned v ∧ OwP w' w.heap.size 52 v xs ∧ Below w.heap.size w w' := by
  refine (callsIn_wide (n := 3)).1 ?_
  refine callsIn_of_wp_marks Tryd.func21 rfl trivial ?_ rfl
  simp only [Tryd.ntmps21, List.size_toArray, List.length_cons, List.length_nil, Nat.reduceAdd, Nat.reduceSub, Array.replicate_succ, Array.replicate_zero, List.push_toArray, List.append_toArray, List.nil_append, List.cons_append]
  gi_wp2_with (refine ⟨trivial, ?_⟩; gi_at_call 46; refine (callsIn_wide.2 (orEmpty_any (.func gf) #[] lb _)).mono ?_; rintro e w' ⟨rfl, rfl⟩)
  have hx0 := Boxed.new w 30 (.slice none 0 0)
  have hz0 : (w.alloc (.cells #[.slice none 0 0] 30)).heap.size = w.heap.size + 1 := by simp
  refine wpIn_rangeR (K := K) (T := fun _ => False) (xs := xs) (Gs := Gs) (G := fun _ => Gs) (gf := gf) (lb := lb) rfl eg hit (fun x args V F hE => by rw [hE]; rfl) (fun x args F A B h _ => h) (fun k hk => by have := hK k hk; omega) (fun k hk => hk.elim) (fun _ => hGss) hGss (hGss _ _ hG (Ch.alloc _ w _))
    (fun R pre W => (∃ v, Boxed W w.heap.size 30 v ∧ OwP W (w.heap.size + 1) 52 v pre ∧ ∀ k, v.ownBlock = some k → R k) ∧ Below w.heap.size w W) (fun _ _ _ _ => False) ?hI ?hIx ?h0
    (fun x _ _ => { tmps := #[.func (.func gf) #[] lb, undef, .slice none 0 0, .pointer (some ⟨w.heap.size, 0, none⟩), .string (txt x.1), .string (txt x.2), .func (.func gf) #[] lb, .func (.func gf) #[] lb, .string (txt x.1), .string (txt x.2), undef, undef, undef, undef, undef, undef, undef], defers := [] }) (fun _ _ V => V) (fun _ _ _ => Below.refl _ _) ?assign ?body ?done ?stop
  case hI =>
    rintro R pre hR A B ⟨⟨v, hb, ho, hv⟩, hc⟩ hch
    rw [hz0] at hR
    refine ⟨⟨v, hch.boxed hb ?_, ho.keep hch ?_, hv⟩, hc.trans (hch.below (by have := hc.size; omega) ?_)⟩
    · rintro (h | ⟨h, _⟩)
      · exact h
      · rw [hz0] at h; omega
    · rintro k hk (h | ⟨_, h⟩)
      · exact h
      · exact h (hv k hk)
    · rintro k hk (h | ⟨h, _⟩)
      · exact h
      · rw [hz0] at h; omega
  case hIx => exact fun _ _ _ _ _ _ h _ => h
  case h0 =>
    intro W' hc
    exact ⟨⟨_, hc.boxed hx0 id, OwP.nil _ _ _, fun k hk => by cases hk⟩, ((Ch.alloc (fun _ => False) w _).tr hc).new⟩
  case assign =>
    intro m l x args W F Kk hE hK
    rw [hE]
    gi_wp2
    exact hK
  case body =>
    rintro m l R pre x args V0 W hM1 hW1 hR ⟨⟨v, hb, ho, hv⟩, hc⟩ hpre hE
    rw [hz0] at hM1 hW1 hR ⊢
    have hWz := hW1.size
    obtain ⟨kk, vv⟩ := x
    have hlen : pre.length + 1 ≤ 1000000 := by have := hpre.length_le; simp at this; omega
    have hcell := hb.cell
    have hbl := hb.lt
    have hoa := ho.new ((Below.refl W.heap.size W).alloc (Nat.le_refl _) (.cells #[.string (txt kk), .string (txt vv)] 52))
    obtain ⟨a, cap, rfl, _⟩ := ho.rd
    have hown : ∀ k, (Value.slice a pre.length cap).ownBlock = some k → w.heap.size + 1 ≤ k ∧ k < W.heap.size := ho.own
    gi_wp2_with (gi_at_builtin; refine wpListIn_pairB rfl (.tmp 10) (.tmp 14) 30 52 rfl Tryd.underlying30 Tryd.info52 (w.heap.size + 1) (.slice a pre.length cap) pre rfl hoa W.heap.size (kk, vv) rfl (prow W _ rfl 52 (kk, vv)) (by omega) (by simp; omega) ?_; intro v' w3 hown3 hc3 hbk3; obtain ⟨a', cap', hv', _⟩ := hown3.rd; subst hv'; have hb3 : Boxed w3 w.heap.size 30 (.slice a pre.length cap) := (hc3.boxed (hb.alloc _) (fun h => by have := (hown _ h).1; omega)); have hcell3 := hb3.cell; have hfz3 := hb3.frozen)
    have hWw : Ch (fun k => k = w.heap.size ∨ R k) W (w3.setCell ⟨w.heap.size, 0, none⟩ (.slice a' (pre ++ [(kk, vv)]).length cap')) :=
      ((Ch.alloc _ W _).trans hc3 (fun j _ h => .inr (hv j h))).tr (Ch.setCell _ _ _ fun _ => .inl rfl)
    have hl : (pre ++ [(kk, vv)]).length = pre.length + 1 := by simp
    rw [hl] at hWw hown3 hbk3
    refine ⟨hWw.mono ?_, ⟨⟨_, hb3.set _, hown3.keep (Ch.setCell (S := fun k => k = w.heap.size) _ _ _ fun _ => rfl) ?_, ?_⟩, hc.trans (hWw.below (by have := hc.size; omega) ?_)⟩⟩
    · rintro j _ (h | h)
      · exact ⟨fun hk => by have := hK _ hk; omega, .inl (by omega)⟩
      · exact ⟨fun hk => by have := hK _ hk; have := (hR _ h).1; omega, .inr h⟩
    · intro k hk e
      have := (hown3.own k hk).1
      omega
    · intro k hk
      rcases hbk3 k hk with h | h
      · exact .inl (hv k h)
      · refine .inr ⟨by simp at h; omega, ?_⟩
        have := (hown3.own k hk).2
        simpa [World.setCell] using this
    · rintro k hk (h | h)
      · omega
      · have := (hR _ h).1; omega
  case done =>
    rintro D R W rfl hR hMW ⟨⟨v, hb, ho, hv⟩, hc⟩ hg hd
    rw [hz0] at hMW hd hR ⊢
    have hcell := hb.cell
    gi_wp2
    refine ⟨by simp, .inl ⟨_, _, rfl, run_takeDeferred hd, ?_⟩⟩
    have hp : ∀ S : Nat → Prop, S (w.heap.size + 1) → Ch S W (W.putObj (w.heap.size + 1) (.deferred none)) := fun S h => Ch.putObj _ _ _ fun _ => h
    refine ⟨_, results_tmp rfl _ _ _, v, rfl, ?_, ?_⟩
    · exact (ho.keep (hp (fun k => k = w.heap.size + 1) rfl) fun k hk e => by have := (hR k (hv k hk)).1; omega).low (by omega)
    · exact hc.trans ((hp (fun k => k = w.heap.size + 1) rfl).below (by omega) fun k hk e => by omega)
  case stop =>
    rintro D R c pre W _ _ _ _ h
    exact h.elim
end Go.Proofs.YtfjlkphpeneahaaDoor
