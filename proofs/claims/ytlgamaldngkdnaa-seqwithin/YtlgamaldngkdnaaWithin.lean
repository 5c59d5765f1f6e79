/- Walks of Within and its run. -/
import Derived.Test.YtlgamaldngkdnaaOf
import Derived.Test.YtlgamaldngkdnaaOrder
import Derived.Test.YtlgamaldngkdnaaOnly
namespace Go.Proofs.Ytlgamaldngkdnaa
open Go Go.RowKit Go.Shelf
attribute [local go_sem] Oper.semAt_some

def withinRun (bs bt bf : Nat) : Value := .func (.func 41) #[] #[.pointer (some ⟨bs, 0, none⟩), .pointer (some ⟨bt, 0, none⟩), .pointer (some ⟨bf, 0, none⟩)]
set_option maxHeartbeats 400000 in
theorem within_any (fs : Value) (f1 : Fn) (t1 l1 : Array Value) (h1 : fs = .func f1 t1 l1) (f t : ByteArray) (w : World) :
    Calls Try.prog 24 #[fs, .string f, .string t] w fun e w' => e = .returned (withinRun w.heap.size (w.heap.size + 1 + 1) (w.heap.size + 1)) ∧ Boxed w' w.heap.size 25 fs ∧ Boxed w' (w.heap.size + 1) 9 (.string f) ∧ Boxed w' (w.heap.size + 1 + 1) 9 (.string t) ∧ Ch (fun _ => False) w w' := by
  subst h1
  go_enter Try.func24, Try.ntmps24
  go_wp2
  go_ret
  have b1 := Boxed.new w 25 (.func f1 t1 l1)
  have b2 := Boxed.new (w.alloc (.cells #[.func f1 t1 l1] 25)) 9 (.string f)
  have b3 := Boxed.new ((w.alloc (.cells #[.func f1 t1 l1] 25)).alloc (.cells #[.string f] 9)) 9 (.string t)
  rw [World.size_alloc] at b2
  rw [World.size_alloc, World.size_alloc] at b3
  exact ⟨rfl, (b1.alloc _).alloc _, b2.alloc _, b3, ((Ch.alloc _ w _).tr (Ch.alloc _ _ _)).tr (Ch.alloc _ _ _)⟩

def inP (f t : ByteArray) (x : Pr) : Bool := !lt x.1 f && lt x.1 t
theorem filter_stop {f t : ByteArray} {xs zs : List Pr} {x : Pr} (hr : Rise xs) (hp : zs ++ [x] <+: xs) (hx : lt x.1 t = false) : xs.filter (inP f t) = (zs ++ [x]).filter (inP f t) := by
  obtain ⟨r, rfl⟩ := hp
  rw [List.filter_append (l₂ := r)]
  have h0 : r.filter (inP f t) = [] := by
    rw [List.filter_eq_nil_iff]
    intro y hy
    obtain ⟨j, hj, rfl⟩ := List.getElem_of_mem hy
    have h1 := hr zs.length (zs.length + 1 + j) (by omega) (by simp; omega)
    have e1 : ky (zs ++ [x] ++ r) zs.length = x.1 := by
      rw [ky_append_left _ _ _ (by simp), ky_append_last]
    have e2 : ky (zs ++ [x] ++ r) (zs.length + 1 + j) = (r[j]).1 := by
      unfold ky
      rw [List.getD_eq_getElem?_getD, List.getElem?_append_right (by simp)]
      simp [List.getElem?_eq_getElem hj]
    rw [e1, e2] at h1
    unfold inP
    cases h2 : lt (r[j]).1 t with
    | false => simp
    | true => have := lt_trans' h1 h2; rw [hx] at this; cases this
  rw [h0, List.append_nil]
def WithinK (bs bt bf : Nat) (K : Nat → Prop) (k : Nat) : Prop := k = bs ∨ k = bt ∨ k = bf ∨ K k
def WithinGs (bs bt bf : Nat) (fs : Value) (f t : ByteArray) (Gs : World → Prop) (W : World) : Prop := Boxed W bs 25 fs ∧ Boxed W bt 9 (.string t) ∧ Boxed W bf 9 (.string f) ∧ Gs W

set_option maxRecDepth 100000 in
set_option maxHeartbeats 1000000 in
theorem within_iter {gf : Nat} {lb : Array Value} (eg : ∀ args w, (callFunc gf args).run Try.prog w = .ok (.enter gf args) w) {K : Nat → Prop} {xs : List Pr} {Gs : World → Prop} (hit : Iter Try.prog gf lb enc2 K (fun _ => False) xs Gs (fun _ => Gs))
    (hGss : Stab (fun k => ¬ K k) Gs) (f t : ByteArray) (hrise : Rise xs) (bs bt bf : Nat) :
    Iter Try.prog 41 #[.pointer (some ⟨bs, 0, none⟩), .pointer (some ⟨bt, 0, none⟩), .pointer (some ⟨bf, 0, none⟩)] enc2 (WithinK bs bt bf K) (fun _ => False) (xs.filter (inP f t))
      (WithinGs bs bt bf (.func (.func gf) #[] lb) f t Gs) (fun _ => WithinGs bs bt bf (.func (.func gf) #[] lb) f t Gs) := by
  intro l J Jx W n hKW hTW hJ hJx hY h0 hG
  obtain ⟨hbs, hbt, hbf, hGs0⟩ := hG
  have hns : bs < W.heap.size := hbs.lt
  have hnt : bt < W.heap.size := hbt.lt
  have hnf : bf < W.heap.size := hbf.lt
  have hca : ∀ S : Nat → Prop, Ch S W (W.alloc (.cells #[.func (.yield l) #[] #[]] 32)) := fun S => Ch.alloc S W _
  have hbs1 := (hca (fun _ => False)).boxed hbs id
  have hbt1 := (hca (fun _ => False)).boxed hbt id
  have hbf1 := (hca (fun _ => False)).boxed hbf id
  have hy1 := Boxed.new W 32 (.func (.yield l) #[] #[])
  have cs := hbs1.cell
  refine callsIn_wide.2 ((callsIn_wide (n := 3)).1 ?_)
  refine callsIn_of_wp_marks Try.func41 rfl trivial ?_ rfl
  simp only [Try.ntmps41, List.size_toArray, List.length_cons, List.length_nil, Nat.reduceAdd, Nat.reduceSub, Array.replicate_succ, Array.replicate_zero, List.push_toArray, List.append_toArray, List.nil_append, List.cons_append]
  gi_wp2_with (refine ⟨trivial, ?_⟩; gi_at_call 34; refine (callsIn_wide.2 (orEmpty_any (.func gf) #[] lb _)).mono ?_; rintro e w' ⟨rfl, rfl⟩)
  clear cs
  have hz1 : (W.alloc (.cells #[.func (.yield l) #[] #[]] 32)).heap.size = W.heap.size + 1 := by simp
  have hKW1 : ∀ k, K k → k < W.heap.size := fun k hk => hKW k (.inr (.inr (.inr hk)))
  refine wpIn_range (K := K) (T := fun _ => False) (xs := xs) (Gs := Gs) (G := fun _ => Gs) (gf := gf) (lb := lb) rfl eg hit (fun _ => rfl) (fun k hk => by have := hKW1 k hk; omega) (fun k hk => hk.elim) (fun _ => hGss) hGss (hGss _ _ hGs0 (hca _))
    (fun M zs V => J M (zs.filter (inP f t)) V ∧ (Boxed V bs 25 (.func (.func gf) #[] lb) ∧ Boxed V bt 9 (.string t) ∧ Boxed V bf 9 (.string f)) ∧ Boxed V W.heap.size 32 (.func (.yield l) #[] #[]))
    (fun c M zs V => c = .ret ∧ (Jx M (zs.filter (inP f t)) V ∨ (J M (zs.filter (inP f t)) V ∧ xs.filter (inP f t) = zs.filter (inP f t))) ∧ (Boxed V bs 25 (.func (.func gf) #[] lb) ∧ Boxed V bt 9 (.string t) ∧ Boxed V bf 9 (.string f))) ?hI ?hIx ?h0
    (fun x => { tmps := #[.func (.yield l) #[] #[], .pointer (some ⟨bs, 0, none⟩), .pointer (some ⟨bt, 0, none⟩), .pointer (some ⟨bf, 0, none⟩), .pointer (some ⟨W.heap.size, 0, none⟩), .string x.1, .int .i64 x.2, .func (.func gf) #[] lb, .func (.func gf) #[] lb, .string x.1, .int .i64 x.2, undef, undef, undef, undef, undef, undef, undef, undef, undef, undef, undef, undef, undef, undef, undef], defers := [] }) ?assign ?body ?done ?stop
  case hI =>
    rintro M pre hM A B ⟨hj, ⟨b1, b2, b3⟩, b4⟩ hch
    rw [hz1] at hM
    have hn : ∀ k, k ≤ W.heap.size → ¬ ((fun _ => False : Nat → Prop) k ∨ ((W.alloc (.cells #[.func (.yield l) #[] #[]] 32)).heap.size ≤ k ∧ k < M)) := by
      rintro k hk (h | ⟨h, _⟩)
      · exact h
      · omega
    exact ⟨hJ M _ (by omega) A B hj (hch.mono fun j _ h => h.imp id fun h => ⟨by omega, h.2⟩), ⟨hch.boxed b1 (hn _ (by omega)), hch.boxed b2 (hn _ (by omega)), hch.boxed b3 (hn _ (by omega))⟩, hch.boxed b4 (hn _ (by omega))⟩
  case hIx =>
    rintro c M pre hM A B ⟨hc, hj, b1, b2, b3⟩ hch
    rw [hz1] at hM
    have hn : ∀ k, k ≤ W.heap.size → ¬ ((fun _ => False : Nat → Prop) k ∨ ((W.alloc (.cells #[.func (.yield l) #[] #[]] 32)).heap.size ≤ k ∧ k < M)) := by
      rintro k hk (h | ⟨h, _⟩)
      · exact h
      · omega
    have hch' : Ch (fun k => (fun _ => False : Nat → Prop) k ∨ W.heap.size ≤ k ∧ k < M) A B := hch.mono fun j _ h => h.imp id fun h => ⟨by omega, h.2⟩
    exact ⟨hc, hj.imp (fun h => hJx M _ (by omega) A B h hch') (fun h => ⟨hJ M _ (by omega) A B h.1 hch', h.2⟩), hch.boxed b1 (hn _ (by omega)), hch.boxed b2 (hn _ (by omega)), hch.boxed b3 (hn _ (by omega))⟩
  case h0 =>
    intro W' hc
    exact ⟨h0 W' ((hca _).tr hc), ⟨hc.boxed hbs1 id, hc.boxed hbt1 id, hc.boxed hbf1 id⟩, hc.boxed hy1 id⟩
  case assign =>
    intro m l x W Kk hK
    simp only [enc2]
    gi_wp2
    exact hK
  case body =>
    rintro m l' M zs x V hM1 hM2 ⟨hj, ⟨b1, b2, b3⟩, b4⟩ hpre
    rw [hz1] at hM1 ⊢
    have hfp : (zs ++ [x]).filter (inP f t) <+: xs.filter (inP f t) := filter_prefix hpre
    have hYY := fun (mm : Nat) (h3 : inP f t x = true) => hY M (zs.filter (inP f t)) x V mm (by omega) hM2 hj (by rw [List.filter_append, List.filter_cons_of_pos h3] at hfp; exact hfp)
    have hst := fun h : lt x.1 t = false => filter_stop (f := f) hrise hpre h
    have hfn : inP f t x = false → (zs ++ [x]).filter (inP f t) = zs.filter (inP f t) := fun h => by rw [List.filter_append, List.filter_cons_of_neg (by rw [h]; simp), List.filter_nil, List.append_nil]
    have hfy : inP f t x = true → (zs ++ [x]).filter (inP f t) = zs.filter (inP f t) ++ [x] := fun h => by rw [List.filter_append, List.filter_cons_of_pos h, List.filter_nil]
    have hin : inP f t x = (!lt x.1 f && lt x.1 t) := rfl
    obtain ⟨kk, vv⟩ := x
    unfold enc2 at hYY
    dsimp only at hYY hst hin
    have HH := Lib.hid (And.intro hYY (And.intro hst (And.intro hfn (And.intro hfy hin))))
    clear hYY hst hfn hfy hin hfp
    have ct := b2.cell
    have cf := b3.cell
    have cy := b4.cell
    gi_wp2
    refine ⟨trivial, (fun h => by cases h), ?_⟩
    refine (CallsIn.inRound l' (callsIn_wide.2 (less_str kk t V))).mono ?_
    rintro e V2 ⟨rfl, rfl⟩
    cases hlt : lt kk t with
    | false =>
      have HLT := Lib.hid hlt
      clear hlt
      gi_wp2
      have hnf2 : inP f t (kk, vv) = false := by rw [HH.out.2.2.2.2, HLT.out, Bool.and_false]
      refine ⟨Ch.refl _ _, rfl, .inr ⟨?_, HH.out.2.1 HLT.out⟩, b1, b2, b3⟩
      rw [HH.out.2.2.1 hnf2]
      exact hj
    | true =>
      have HLT := Lib.hid hlt
      clear hlt
      gi_wp2
      refine ⟨trivial, (fun h => by cases h), ?_⟩
      refine (CallsIn.inRound l' (callsIn_wide.2 (less_str kk f V2))).mono ?_
      rintro e V3 ⟨rfl, rfl⟩
      cases hlf : lt kk f with
      | true =>
        have HLF := Lib.hid hlf
        clear hlf
        gi_wp2
        refine ⟨(fun _ h => by cases h), ?_⟩
        gi_wp2
        have hnf2 : inP f t (kk, vv) = false := by rw [HH.out.2.2.2.2, HLF.out]; rfl
        refine ⟨Ch.refl _ _, ?_, ⟨b1, b2, b3⟩, b4⟩
        rw [HH.out.2.2.1 hnf2]
        exact hj
      | false =>
        have HLF := Lib.hid hlf
        clear hlf
        have hyes : inP f t (kk, vv) = true := by rw [HH.out.2.2.2.2, HLF.out, HLT.out]; rfl
        obtain ⟨fn, tmps, assign, body, hyr, hR⟩ := HH.out.1 (m - 1) hyes
        have HY2 := Lib.hid hyes
        clear hyes
        gi_wp2
        refine ⟨(fun h => by cases h), ?_⟩
        refine RoundIn.mono hR ?_
        clear hR hyr ct cf cy
        rintro e V4 (⟨rfl, hj3, hc3⟩ | ⟨rfl, hj3, hc3⟩)
        all_goals
          have b13 := hc3.boxed b1 (fun h => h.1 (.inl rfl))
          have b23 := hc3.boxed b2 (fun h => h.1 (.inr (.inl rfl)))
          have b33 := hc3.boxed b3 (fun h => h.1 (.inr (.inr (.inl rfl))))
          have b43 := hc3.boxed b4 (fun h => h.2 ⟨Nat.le_refl _, by omega⟩)
          have hcc := hc3.mono (S' := fun k => ¬ K k ∧ ¬ (W.heap.size + 1 ≤ k ∧ k < M)) (fun j _ h => ⟨fun hk => h.1 (.inr (.inr (.inr hk))), fun hk => h.2 ⟨by omega, hk.2⟩⟩)
          rw [← HH.out.2.2.2.1 HY2.out] at hj3
          clear hc3
          gi_wp2
        · exact ⟨hcc, hj3, ⟨b13, b23, b33⟩, b43⟩
        · exact ⟨hcc, rfl, .inl hj3, b13, b23, b33⟩
  case done =>
    rintro D M V hD hDM hMV ⟨hj, ⟨b1, b2, b3⟩, b4⟩ hG3 hd
    rw [hz1] at hD
    gi_wp2
    refine ⟨by simp, .inl ⟨_, _, rfl, run_takeDeferred hd, ?_⟩⟩
    have hp : ∀ S : Nat → Prop, S D → Ch S V (V.putObj D (.deferred none)) := fun S h => Ch.putObj _ _ _ fun _ => h
    have hDk : ∀ k, WithinK bs bt bf K k → k ≠ D := fun k hk => by have := hKW k hk; omega
    exact ⟨_, results_none rfl _ _ _, ⟨_, rfl⟩, M, by omega, by simpa using hMV, .inl ⟨hJ M _ (by omega) _ _ hj (hp _ (.inr ⟨by omega, hDM⟩)),
      (hp (fun k => k = D) rfl).boxed b1 (fun h => by omega), (hp (fun k => k = D) rfl).boxed b2 (fun h => by omega), (hp (fun k => k = D) rfl).boxed b3 (fun h => by omega), hGss _ _ hG3 (hp _ fun hk => hDk D (.inr (.inr (.inr hk))) rfl)⟩⟩
  case stop =>
    rintro D M c pre V hD hDM hMV hpre ⟨rfl, hj, b1, b2, b3⟩ hG3 hd
    rw [hz1] at hD
    gi_wp2
    refine ⟨by simp, .inl ⟨_, _, rfl, run_takeDeferred hd, ?_⟩⟩
    have hp : ∀ S : Nat → Prop, S D → Ch S V (V.putObj D (.deferred none)) := fun S h => Ch.putObj _ _ _ fun _ => h
    have hDk : ∀ k, WithinK bs bt bf K k → k ≠ D := fun k hk => by have := hKW k hk; omega
    have hgg : WithinGs bs bt bf (.func (.func gf) #[] lb) f t Gs (V.putObj D (.deferred none)) := ⟨(hp (fun k => k = D) rfl).boxed b1 (fun h => by omega), (hp (fun k => k = D) rfl).boxed b2 (fun h => by omega), (hp (fun k => k = D) rfl).boxed b3 (fun h => by omega), hGss _ _ hG3 (hp _ fun hk => hDk D (.inr (.inr (.inr hk))) rfl)⟩
    refine ⟨_, results_none rfl _ _ _, ⟨_, rfl⟩, M, by omega, by simpa using hMV, ?_⟩
    rcases hj with hj | ⟨hj, he⟩
    · exact .inr ⟨_, filter_prefix hpre, hJx M _ (by omega) _ _ hj (hp _ (.inr ⟨by omega, hDM⟩)), hgg⟩
    · rw [he]
      exact .inl ⟨hJ M _ (by omega) _ _ hj (hp _ (.inr ⟨by omega, hDM⟩)), hgg⟩
end Go.Proofs.Ytlgamaldngkdnaa
