/- The walks of Within, and of its run. -/
import Derived.Test.YtfjlkphpeneahaaDoorM7
import Derived.Test.YtfjlkphpeneahaaDoorM9
namespace Go.Proofs.YtfjlkphpeneahaaDoor
open Go Go.RowKit Go.Shelf
attribute [local go_sem] Oper.semAt_some

/-- Within two keys. -/
def inP (f t : Bs) (x : It) : Bool := !ltL x.1 f && ltL x.1 t
theorem filter_prefix {f t : Bs} {xs zs : List It} (h : zs <+: xs) : zs.filter (inP f t) <+: xs.filter (inP f t) := by
  obtain ⟨r, rfl⟩ := h
  rw [List.filter_append]
  exact List.prefix_append _ _
/-- What a run tells within two keys: up to the first key that is not below the second. -/
def witL (f t : Bs) (xs : List It) : List It := (xs.takeWhile fun x => ltL x.1 t).filter (inP f t)
theorem take_pre {p : It → Bool} : ∀ {zs r : List It}, (∀ y ∈ zs, p y = true) → (zs ++ r).takeWhile p = zs ++ r.takeWhile p
  | [], _, _ => rfl
  | z :: zs, r, h => by
    rw [List.cons_append, List.takeWhile_cons, if_pos (h z (by simp)), take_pre fun y hy => h y (by simp [hy])]
    rfl
theorem wit_prefix {f t : Bs} {xs zs : List It} (hp : zs <+: xs) (h : ∀ y ∈ zs, ltL y.1 t = true) : zs.filter (inP f t) <+: witL f t xs := by
  obtain ⟨r, rfl⟩ := hp
  unfold witL
  rw [take_pre h, List.filter_append]
  exact List.prefix_append _ _
theorem wit_stop {f t : Bs} {xs zs : List It} {x : It} (hp : zs ++ [x] <+: xs) (h : ∀ y ∈ zs, ltL y.1 t = true) (hx : ltL x.1 t = false) : witL f t xs = zs.filter (inP f t) := by
  obtain ⟨r, rfl⟩ := hp
  unfold witL
  rw [List.append_assoc, take_pre h, List.cons_append, List.takeWhile_cons, if_neg (by rw [hx]; simp), List.append_nil]
theorem wit_all {f t : Bs} {xs : List It} (h : ∀ y ∈ xs, ltL y.1 t = true) : witL f t xs = xs.filter (inP f t) := by
  unfold witL
  have := take_pre (p := fun x : It => ltL x.1 t) (zs := xs) (r := []) h
  rw [List.append_nil] at this
  rw [this]
  simp
theorem wit_asc {f t : Bs} : ∀ {xs : List It}, Asc2 xs → witL f t xs = xs.filter (inP f t)
  | [], _ => rfl
  | x :: xs, h => by
    have h1 := List.pairwise_cons.1 h
    have ih := wit_asc (f := f) (t := t) h1.2
    unfold witL at ih ⊢
    by_cases hx : ltL x.1 t = true
    · rw [List.takeWhile_cons, if_pos hx, List.filter_cons, List.filter_cons, ih]
    · rw [List.takeWhile_cons, if_neg hx]
      symm
      refine List.filter_eq_nil_iff.2 fun y hy => ?_
      unfold inP
      have hy2 : ¬ ltL y.1 t = true := fun hk => by
        rcases List.mem_cons.1 hy with rfl | hy
        · exact hx hk
        · exact hx (ltL_trans (h1.1 y hy) hk)
      rw [Bool.eq_false_iff.2 hy2, Bool.and_false]
      simp
theorem wit_len (f t : Bs) (xs : List It) : (witL f t xs).length ≤ xs.length := Nat.le_trans (List.length_filter_le _ _) (List.takeWhile_sublist _).length_le
theorem isNaN_str (s : ByteArray) (w : World) : Calls Tryd.prog 92 #[.string s] w fun e w' => e = .returned (.bool false) ∧ w' = w := by
  go_enter Tryd.func92, Tryd.ntmps92
  go_wp2
  go_ret
  exact ⟨by simp, rfl⟩
set_option maxHeartbeats 400000 in
theorem less_str (s t : Bs) (w : World) : Calls Tryd.prog 76 #[.string (txt s), .string (txt t)] w fun e w' => e = .returned (.bool (ltL s t)) ∧ w' = w := by
  have hless := less_txt s t
  generalize txt s = ts at *
  generalize txt t = tt at *
  go_enter Tryd.func76, Tryd.ntmps76
  go_wp2_with (go_at_call 92; refine (isNaN_str _ _).mono ?_; rintro e w' ⟨rfl, rfl⟩)
  go_ret
  exact ⟨by rw [← hless]; rfl, rfl⟩
def withinRun (b : Nat) : Value := .func (.func 75) #[] #[.pointer (some ⟨b, 0, none⟩), .pointer (some ⟨b + 2, 0, none⟩), .pointer (some ⟨b + 1, 0, none⟩)]
set_option maxHeartbeats 400000 in
theorem within_any (fs : Value) (f1 : Fn) (t1 l1 : Array Value) (h1 : fs = .func f1 t1 l1) (f t : ByteArray) (w : World) :
    Calls Tryd.prog 47 #[fs, .string f, .string t] w fun e w' => e = .returned (withinRun w.heap.size) ∧ Boxed w' w.heap.size 46 fs ∧ Boxed w' (w.heap.size + 1) 9 (.string f) ∧ Boxed w' (w.heap.size + 2) 9 (.string t) ∧ Below w.heap.size w w' := by
  subst h1
  go_enter Tryd.func47, Tryd.ntmps47
  go_wp2
  go_ret
  have b1 := Boxed.new w 46 (.func f1 t1 l1)
  have b2 := Boxed.new (w.alloc (.cells #[.func f1 t1 l1] 46)) 9 (.string f)
  have b3 := Boxed.new ((w.alloc (.cells #[.func f1 t1 l1] 46)).alloc (.cells #[.string f] 9)) 9 (.string t)
  rw [World.size_alloc] at b2
  rw [World.size_alloc, World.size_alloc] at b3
  have hc : Ch (fun _ => False) w (((w.alloc (.cells #[.func f1 t1 l1] 46)).alloc (.cells #[.string f] 9)).alloc (.cells #[.string t] 9)) := ((Ch.alloc _ w _).tr (Ch.alloc _ _ _)).tr (Ch.alloc _ _ _)
  exact ⟨rfl, (b1.alloc _).alloc _, b2.alloc _, b3, hc.new⟩
def WithinK (b : Nat) (K : Nat → Prop) (k : Nat) : Prop := k = b ∨ k = b + 1 ∨ k = b + 2 ∨ K k
def WithinG (b : Nat) (fs : Value) (f t : Bs) (Gs : World → Prop) (W : World) : Prop := (Boxed W b 46 fs ∧ Boxed W (b + 1) 9 (.string (txt f)) ∧ Boxed W (b + 2) 9 (.string (txt t))) ∧ Gs W
theorem boxes_keep {S : Nat → Prop} {A B : World} {b : Nat} {fs : Value} {f t : Bs} (h : Boxed A b 46 fs ∧ Boxed A (b + 1) 9 (.string (txt f)) ∧ Boxed A (b + 2) 9 (.string (txt t))) (hc : Ch S A B) (hn : ∀ k, b ≤ k → k ≤ b + 2 → ¬ S k) : Boxed B b 46 fs ∧ Boxed B (b + 1) 9 (.string (txt f)) ∧ Boxed B (b + 2) 9 (.string (txt t)) :=
  ⟨hc.boxed h.1 (hn _ (by omega) (by omega)), hc.boxed h.2.1 (hn _ (by omega) (by omega)), hc.boxed h.2.2 (hn _ (by omega) (by omega))⟩

set_option maxRecDepth 100000 in
set_option maxHeartbeats 4000000 in
theorem within_iter {gf : Nat} {lb : Array Value} (eg : ∀ args w, (callFunc gf args).run Tryd.prog w = .ok (.enter gf args) w) {K : Nat → Prop} {xs : List It} {Gs : World → Prop} (hit : IterR Tryd.prog gf lb EncP K (fun _ => False) xs Gs (fun _ => Gs))
    (hGss : Stab (fun k => ¬ K k) Gs) (f t : Bs) (b : Nat) :
    IterR Tryd.prog 75 #[.pointer (some ⟨b, 0, none⟩), .pointer (some ⟨b + 2, 0, none⟩), .pointer (some ⟨b + 1, 0, none⟩)] EncP (WithinK b K) (fun _ => False) (witL f t xs)
      (WithinG b (.func (.func gf) #[] lb) f t Gs) (fun _ => WithinG b (.func (.func gf) #[] lb) f t Gs) := by
  intro l J Jx W n hKW hTW hJ hJx hY h0 hG
  obtain ⟨hbb, hGs0⟩ := hG
  have hnb : b + 2 < W.heap.size := hbb.2.2.lt
  have hca : ∀ S : Nat → Prop, Ch S W (W.alloc (.cells #[.func (.yield l) #[] #[]] 135)) := fun S => Ch.alloc S W _
  have hbb1 := boxes_keep hbb (hca (fun _ => False)) (fun _ _ _ => id)
  have hy1 := Boxed.new W 135 (.func (.yield l) #[] #[])
  have cs := hbb1.1.cell
  refine callsIn_wide.2 ((callsIn_wide (n := 3)).1 ?_)
  refine callsIn_of_wp_marks Tryd.func75 rfl trivial ?_ rfl
  simp only [Tryd.ntmps75, List.size_toArray, List.length_cons, List.length_nil, Nat.reduceAdd, Nat.reduceSub, Array.replicate_succ, Array.replicate_zero, List.push_toArray, List.append_toArray, List.nil_append, List.cons_append]
  gi_wp2_with (refine ⟨trivial, ?_⟩; gi_at_call 46; refine (callsIn_wide.2 (orEmpty_any (.func gf) #[] lb _)).mono ?_; rintro e w' ⟨rfl, rfl⟩)
  clear cs
  have hz1 : (W.alloc (.cells #[.func (.yield l) #[] #[]] 135)).heap.size = W.heap.size + 1 := by simp
  have hKW1 : ∀ k, K k → k < W.heap.size := fun k hk => hKW k (.inr (.inr (.inr hk)))
  refine wpIn_rangeR (K := K) (T := fun _ => False) (xs := xs) (Gs := Gs) (G := fun _ => Gs) (gf := gf) (lb := lb) rfl eg hit (fun x args V F hE => by rw [hE]; rfl) (fun x args F A B h _ => h) (fun k hk => by have := hKW1 k hk; omega) (fun k hk => hk.elim) (fun _ => hGss) hGss (hGss _ _ hGs0 (hca _))
    (fun R zs V => (∀ y ∈ zs, ltL y.1 t = true) ∧ ∃ Ro : Nat → Prop, (∀ k, Ro k → R k) ∧ (∀ k, Ro k → W.heap.size ≤ k ∧ k < V.heap.size) ∧ J Ro (zs.filter (inP f t)) V ∧ (Boxed V b 46 (.func (.func gf) #[] lb) ∧ Boxed V (b + 1) 9 (.string (txt f)) ∧ Boxed V (b + 2) 9 (.string (txt t))) ∧ Boxed V W.heap.size 135 (.func (.yield l) #[] #[]))
    (fun cd R zs V => cd = .ret ∧ ∃ Ro : Nat → Prop, (∀ k, Ro k → R k) ∧ (∀ k, Ro k → W.heap.size ≤ k ∧ k < V.heap.size) ∧ ((zs.filter (inP f t) <+: witL f t xs ∧ Jx Ro (zs.filter (inP f t)) V) ∨ (J Ro (zs.filter (inP f t)) V ∧ witL f t xs = zs.filter (inP f t))) ∧ (Boxed V b 46 (.func (.func gf) #[] lb) ∧ Boxed V (b + 1) 9 (.string (txt f)) ∧ Boxed V (b + 2) 9 (.string (txt t)))) ?hI ?hIx ?h0
    (fun x _ _ => { tmps := #[.func (.yield l) #[] #[], .pointer (some ⟨b, 0, none⟩), .pointer (some ⟨b + 2, 0, none⟩), .pointer (some ⟨b + 1, 0, none⟩), .pointer (some ⟨W.heap.size, 0, none⟩), .string (txt x.1), .string (txt x.2), .func (.func gf) #[] lb, .func (.func gf) #[] lb, .string (txt x.1), .string (txt x.2), undef, undef, undef, undef, undef, undef, undef, undef, undef, undef, undef, undef, undef, undef, undef], defers := [] }) (fun _ _ V => V) (fun _ _ _ => Below.refl _ _) ?assign ?body ?done ?stop
  case hI =>
    rintro R pre hR A B ⟨hz, Ro, h1, h2, h3, h4, h5⟩ hch
    rw [hz1] at hR
    have hn : ∀ k, k ≤ W.heap.size → ¬ ((fun _ => False : Nat → Prop) k ∨ ((W.alloc (.cells #[.func (.yield l) #[] #[]] 135)).heap.size ≤ k ∧ ¬ R k)) := by
      rintro k hk (h | ⟨h, _⟩)
      · exact h
      · omega
    exact ⟨hz, Ro, h1, fun k hk => by have := h2 k hk; have := hch.size; omega, hJ Ro _ (fun k hk => (h2 k hk).1) A B h3 (hch.mono fun j _ h => h.imp id fun h => ⟨by omega, fun e => h.2 (h1 j e)⟩), boxes_keep h4 hch (fun k _ hk => hn k (by omega)), hch.boxed h5 (hn _ (by omega))⟩
  case hIx =>
    rintro cd R pre hR A B ⟨hcd, Ro, h1, h2, h3, h4⟩ hch
    rw [hz1] at hR
    have hn : ∀ k, k ≤ W.heap.size → ¬ ((fun _ => False : Nat → Prop) k ∨ ((W.alloc (.cells #[.func (.yield l) #[] #[]] 135)).heap.size ≤ k ∧ ¬ R k)) := by
      rintro k hk (h | ⟨h, _⟩)
      · exact h
      · omega
    have hch' : Ch (fun k => (fun _ => False : Nat → Prop) k ∨ W.heap.size ≤ k ∧ ¬ Ro k) A B := hch.mono fun j _ h => h.imp id fun h => ⟨by omega, fun e => h.2 (h1 j e)⟩
    exact ⟨hcd, Ro, h1, fun k hk => by have := h2 k hk; have := hch.size; omega, h3.imp (fun h => ⟨h.1, hJx Ro _ (fun k hk => (h2 k hk).1) A B h.2 hch'⟩) (fun h => ⟨hJ Ro _ (fun k hk => (h2 k hk).1) A B h.1 hch', h.2⟩), boxes_keep h4 hch (fun k _ hk => hn k (by omega))⟩
  case h0 =>
    intro W' hc
    exact ⟨(fun y hy => by cases hy), fun _ => False, fun k hk => hk.elim, fun k hk => hk.elim, h0 W' ((hca _).tr hc), boxes_keep hbb1 hc (fun _ _ _ => id), hc.boxed hy1 id⟩
  case assign =>
    intro m l x args W F Kk hE hK
    rw [hE]
    gi_wp2
    exact hK
  case body =>
    rintro m l' R zs x args V0 V hM1 hW1 hR ⟨hzt, Ro, h1, h2, hj, hb3, b4⟩ hpre hE
    rw [hz1] at hM1 hR hW1 ⊢
    have hWz := hW1.size
    have hzx : ltL x.1 t = true → ∀ y ∈ zs ++ [x], ltL y.1 t = true := fun h y hy => by
      rcases List.mem_append.1 hy with hy | hy
      · exact hzt y hy
      · rw [List.mem_singleton.1 hy]; exact h
    have hfp : ltL x.1 t = true → (zs ++ [x]).filter (inP f t) <+: witL f t xs := fun h => wit_prefix hpre (hzx h)
    have hit3 : inP f t x = true → ltL x.1 t = true := fun h => by unfold inP at h; rw [Bool.and_eq_true] at h; exact h.2
    have hYY := fun (mm : Nat) (h3 : inP f t x = true) => hY Ro (zs.filter (inP f t)) x #[.string (txt x.1), .string (txt x.2)] V mm (by omega) h2 hj (by have hfp := hfp (hit3 h3); rw [List.filter_append, List.filter_cons_of_pos h3] at hfp; exact hfp) rfl
    have hst := fun h : ltL x.1 t = false => wit_stop (f := f) hpre hzt h
    have hfn : inP f t x = false → (zs ++ [x]).filter (inP f t) = zs.filter (inP f t) := fun h => by rw [List.filter_append, List.filter_cons_of_neg (by rw [h]; simp), List.filter_nil, List.append_nil]
    have hfy : inP f t x = true → (zs ++ [x]).filter (inP f t) = zs.filter (inP f t) ++ [x] := fun h => by rw [List.filter_append, List.filter_cons_of_pos h, List.filter_nil]
    have hin : inP f t x = (!ltL x.1 f && ltL x.1 t) := rfl
    have HR := Lib.hid (And.intro h1 (And.intro h2 (And.intro hR (And.intro hM1 (And.intro hWz (And.intro hfp (And.intro hzx hzt)))))))
    obtain ⟨kk, vv⟩ := x
    dsimp only at hYY hst hin
    have HH := Lib.hid (And.intro hYY (And.intro hst (And.intro hfn (And.intro hfy hin))))
    clear hYY hst hfn hfy hin hfp hit3 hzx hzt h1 h2 hR hM1 hWz hW1 hE
    have ct := hb3.2.2.cell
    have cf := hb3.2.1.cell
    have cy := b4.cell
    gi_wp2
    refine ⟨trivial, (fun h => by cases h), ?_⟩
    refine (CallsIn.inRound l' (callsIn_wide.2 (less_str kk t V))).mono ?_
    rintro e V2 ⟨rfl, rfl⟩
    cases hlt : ltL kk t with
    | false =>
      have HLT := Lib.hid hlt
      clear hlt
      gi_wp2
      have hnf2 : inP f t (kk, vv) = false := by rw [HH.out.2.2.2.2, HLT.out, Bool.and_false]
      refine ⟨Ch.refl _ _, rfl, Ro, fun k hk => .inl (HR.out.1 k hk), HR.out.2.1, .inr ⟨?_, ?_⟩, hb3⟩
      · rw [HH.out.2.2.1 hnf2]
        exact hj
      · rw [HH.out.2.2.1 hnf2]
        exact HH.out.2.1 HLT.out
    | true =>
      have HLT := Lib.hid hlt
      clear hlt
      gi_wp2
      refine ⟨trivial, (fun h => by cases h), ?_⟩
      refine (CallsIn.inRound l' (callsIn_wide.2 (less_str kk f V2))).mono ?_
      rintro e V3 ⟨rfl, rfl⟩
      cases hlf : ltL kk f with
      | true =>
        have HLF := Lib.hid hlf
        clear hlf
        gi_wp2
        refine ⟨(fun _ h => by cases h), ?_⟩
        gi_wp2
        have hnf2 : inP f t (kk, vv) = false := by rw [HH.out.2.2.2.2, HLF.out]; rfl
        refine ⟨Ch.refl _ _, HR.out.2.2.2.2.2.2.1 HLT.out, Ro, fun k hk => .inl (HR.out.1 k hk), HR.out.2.1, ?_, hb3, b4⟩
        rw [HH.out.2.2.1 hnf2]
        exact hj
      | false =>
        have HLF := Lib.hid hlf
        clear hlf
        have hyes : inP f t (kk, vv) = true := by rw [HH.out.2.2.2.2, HLF.out, HLT.out]; rfl
        obtain ⟨fn, tmps, assign, body, hyr, hRI⟩ := HH.out.1 (m - 1) hyes
        have HY2 := Lib.hid hyes
        clear hyes
        gi_wp2
        refine ⟨(fun h => by cases h), ?_⟩
        refine RoundIn.mono hRI ?_
        clear hRI hyr ct cf cy
        rintro e V4 hj3
        have hz4 : V3.heap.size ≤ V4.heap.size := by
          rcases hj3 with ⟨_, _, h⟩ | ⟨_, _, h⟩ <;> exact h.size
        have hnR : ∀ k, k ≤ W.heap.size → ¬ Ro k := fun k hk h => by
          have := HR.out.2.2.1 k (HR.out.1 k h); omega
        have hsub : ∀ k, grow Ro V3.heap.size V4.heap.size k → grow R V0.heap.size V4.heap.size k := fun k hk => hk.imp (HR.out.1 k) (fun h => ⟨by have := HR.out.2.2.2.2.1; omega, h.2⟩)
        have hinn : ∀ k, grow Ro V3.heap.size V4.heap.size k → W.heap.size ≤ k ∧ k < V4.heap.size := fun k hk => by
          rcases hk with hk | ⟨hk, hk2⟩
          · have := HR.out.2.1 k hk; omega
          · have := HR.out.2.2.2.1; have := HR.out.2.2.2.2.1; omega
        rcases hj3 with ⟨rfl, hj3, hc3⟩ | ⟨rfl, hj3, hc3⟩
        all_goals
          have q3 := boxes_keep hb3 hc3 (fun k hk1 hk2 h => h.1 (by rcases (show k = b ∨ k = b + 1 ∨ k = b + 2 by omega) with e | e | e <;> simp [WithinK, e]))
          have q4 := hc3.boxed b4 (fun h => by
            rcases h.2 with h2 | h2
            · omega
            · exact hnR _ (Nat.le_refl _) h2)
          have hcc := hc3.mono (S' := fun k => ¬ K k ∧ (k < W.heap.size + 1 ∨ R k)) (fun j _ h => ⟨fun hk => h.1 (.inr (.inr (.inr hk))), h.2.imp (fun h => by omega) (HR.out.1 j)⟩)
          rw [← HH.out.2.2.2.1 HY2.out] at hj3
          clear hc3
          gi_wp2
        · exact ⟨hcc, HR.out.2.2.2.2.2.2.1 HLT.out, _, hsub, hinn, hj3, q3, q4⟩
        · exact ⟨hcc, rfl, _, hsub, hinn, .inl ⟨HR.out.2.2.2.2.2.1 HLT.out, hj3⟩, q3⟩
  case done =>
    rintro D R V rfl hR hMV ⟨hz, Ro, h1, h2, h3, h4, h5⟩ hG3 hd
    rw [hz1] at hMV hR hd ⊢
    gi_wp2
    refine ⟨by simp, .inl ⟨_, _, rfl, run_takeDeferred hd, ?_⟩⟩
    have hp : ∀ S : Nat → Prop, S (W.heap.size + 1) → Ch S V (V.putObj (W.heap.size + 1) (.deferred none)) := fun S h => Ch.putObj _ _ _ fun _ => h
    have hDk : ∀ k, WithinK b K k → k ≠ W.heap.size + 1 := fun k hk => by have := hKW k hk; omega
    have hDR : ¬ Ro (W.heap.size + 1) := fun hk => by have := (hR _ (h1 _ hk)).1; omega
    exact ⟨_, results_none rfl _ _ _, ⟨_, rfl⟩, Ro, fun k hk => by have := h2 k hk; simpa using this, by simp; omega, .inl ⟨by rw [wit_all hz]; exact hJ Ro _ (fun k hk => (h2 k hk).1) _ _ h3 (hp _ (.inr ⟨by omega, hDR⟩)), boxes_keep h4 (hp (fun k => k = W.heap.size + 1) rfl) (fun k _ h => by omega), hGss _ _ hG3 (hp _ fun hk => hDk _ (.inr (.inr (.inr hk))) rfl)⟩⟩
  case stop =>
    rintro D R cd pre V rfl hR hMV hpre ⟨rfl, Ro, h1, h2, h3, h4⟩ hG3 hd
    rw [hz1] at hMV hR hd ⊢
    gi_wp2
    refine ⟨by simp, .inl ⟨_, _, rfl, run_takeDeferred hd, ?_⟩⟩
    have hp : ∀ S : Nat → Prop, S (W.heap.size + 1) → Ch S V (V.putObj (W.heap.size + 1) (.deferred none)) := fun S h => Ch.putObj _ _ _ fun _ => h
    have hDk : ∀ k, WithinK b K k → k ≠ W.heap.size + 1 := fun k hk => by have := hKW k hk; omega
    have hDR : ¬ Ro (W.heap.size + 1) := fun hk => by have := (hR _ (h1 _ hk)).1; omega
    have hgg : WithinG b (.func (.func gf) #[] lb) f t Gs (V.putObj (W.heap.size + 1) (.deferred none)) := ⟨boxes_keep h4 (hp (fun k => k = W.heap.size + 1) rfl) (fun k _ h => by omega), hGss _ _ hG3 (hp _ fun hk => hDk _ (.inr (.inr (.inr hk))) rfl)⟩
    refine ⟨_, results_none rfl _ _ _, ⟨_, rfl⟩, Ro, fun k hk => by have := h2 k hk; simpa using this, by simp; omega, ?_⟩
    rcases h3 with ⟨hp', h3⟩ | ⟨h3, he⟩
    · exact .inr ⟨_, hp', hJx Ro _ (fun k hk => (h2 k hk).1) _ _ h3 (hp _ (.inr ⟨by omega, hDR⟩)), hgg⟩
    · rw [he]
      exact .inl ⟨hJ Ro _ (fun k hk => (h2 k hk).1) _ _ h3 (hp _ (.inr ⟨by omega, hDR⟩)), hgg⟩
end Go.Proofs.YtfjlkphpeneahaaDoor
