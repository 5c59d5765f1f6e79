/- Walks of Made and its run. -/
import Derived.Test.YtlgamaldngkdnaaOf
namespace Go.Proofs.Ytlgamaldngkdnaa
open Go Go.RowKit Go.Shelf
attribute [local go_sem] Oper.semAt_some

def madeRun (bs bm : Nat) : Value := .func (.func 35) #[] #[.pointer (some ⟨bs, 0, none⟩), .pointer (some ⟨bm, 0, none⟩)]
set_option maxHeartbeats 400000 in
theorem made_any (fs fm : Value) (f1 f2 : Fn) (t1 l1 t2 l2 : Array Value) (h1 : fs = .func f1 t1 l1) (h2 : fm = .func f2 t2 l2) (w : World) :
    Calls Try.prog 14 #[fs, fm] w fun e w' => e = .returned (madeRun w.heap.size (w.heap.size + 1)) ∧ Boxed w' (w.heap.size + 1) 34 fm ∧ Boxed w' w.heap.size 25 fs ∧ Ch (fun _ => False) w w' ∧ w'.heap.size = w.heap.size + 2 := by
  subst h1 h2
  go_enter Try.func14, Try.ntmps14
  go_wp2
  go_ret
  have b1 := Boxed.new w 25 (.func f1 t1 l1)
  have b2 := Boxed.new (w.alloc (.cells #[.func f1 t1 l1] 25)) 34 (.func f2 t2 l2)
  rw [World.size_alloc] at b2
  exact ⟨rfl, b2, b1.alloc _, (Ch.alloc _ w _).tr (Ch.alloc _ _ _), by simp⟩
theorem neq_nil34 (f : Fn) (ts : Array Value) (lb : Array Value) (w : World) : (binOp .neq 34 (.func f ts lb) .nilFunc).run Try.prog w = .ok (.bool true) w := by
  have h : (Op.equal 34 (.func f ts lb) .nilFunc).run Try.prog w = .ok false w := eqIn_nil 9999 34 _ _ _ Try.underlying34 f ts lb w
  simp only [binOp]
  simp [h]

/-- What make answers of each pair, turning nothing. -/
def Mk (mf : Nat) (ml : Array Value) (mk : Pr → Int) : Prop := ∀ (x : Pr) (W : World), Calls Try.prog mf (enc2 x ++ ml) W fun e W' => e = .returned (.int .i64 (mk x)) ∧ W' = W
def MadeK (bs bm : Nat) (K : Nat → Prop) (k : Nat) : Prop := k = bs ∨ k = bm ∨ K k
def MadeGs (bs bm : Nat) (fs fm : Value) (Gs : World → Prop) (W : World) : Prop := Boxed W bs 25 fs ∧ Boxed W bm 34 fm ∧ Gs W
def mapM (mk : Pr → Int) (xs : List Pr) : List Pr := xs.map fun x => (x.1, mk x)
def MadeG (bs bm : Nat) (fs fm : Value) (mk : Pr → Int) (xs : List Pr) (G : List Pr → World → Prop) (ys : List Pr) (W : World) : Prop :=
  Boxed W bs 25 fs ∧ Boxed W bm 34 fm ∧ ∃ zs, zs <+: xs ∧ mapM mk zs = ys ∧ G zs W
theorem mapM_prefix {mk : Pr → Int} {zs xs : List Pr} (h : zs <+: xs) : mapM mk zs <+: mapM mk xs := by
  obtain ⟨r, rfl⟩ := h
  unfold mapM
  rw [List.map_append]
  exact List.prefix_append _ _

set_option maxRecDepth 100000 in
set_option maxHeartbeats 1000000 in
theorem made_iter {gf : Nat} {lb : Array Value} (eg : ∀ args w, (callFunc gf args).run Try.prog w = .ok (.enter gf args) w) {K T : Nat → Prop} {xs : List Pr} {Gs : World → Prop} {G : List Pr → World → Prop} (hit : Iter Try.prog gf lb enc2 K T xs Gs G)
    (hGs : ∀ pre, Stab (fun k => ¬ K k) (G pre)) (hGss : Stab (fun k => ¬ K k) Gs)
    {mf : Nat} {ml : Array Value} (em : ∀ args w, (callFunc mf args).run Try.prog w = .ok (.enter mf args) w) {mk : Pr → Int} (hmk : Mk mf ml mk)
    (bs bm : Nat) (hTb : ∀ k, T k → k ≠ bs ∧ k ≠ bm) :
    Iter Try.prog 35 #[.pointer (some ⟨bs, 0, none⟩), .pointer (some ⟨bm, 0, none⟩)] enc2 (MadeK bs bm K) T (mapM mk xs)
      (MadeGs bs bm (.func (.func gf) #[] lb) (.func (.func mf) #[] ml) Gs) (MadeG bs bm (.func (.func gf) #[] lb) (.func (.func mf) #[] ml) mk xs G) := by
  intro l J Jx W n hKW hTW hJ hJx hY h0 hG
  obtain ⟨hbs, hbm, hGs0⟩ := hG
  have hnil := neq_nil34
  have hnm : bm < W.heap.size := hbm.lt
  have hns : bs < W.heap.size := hbs.lt
  have hca : ∀ S : Nat → Prop, Ch S W (W.alloc (.cells #[.func (.yield l) #[] #[]] 32)) := fun S => Ch.alloc S W _
  have hbm1 := (hca (fun _ => False)).boxed hbm id
  have hbs1 := (hca (fun _ => False)).boxed hbs id
  have hy1 := Boxed.new W 32 (.func (.yield l) #[] #[])
  have cs := hbs1.cell
  refine callsIn_wide.2 ((callsIn_wide (n := 3)).1 ?_)
  refine callsIn_of_wp_marks Try.func35 rfl trivial ?_ rfl
  simp only [Try.ntmps35, List.size_toArray, List.length_cons, List.length_nil, Nat.reduceAdd, Nat.reduceSub, Array.replicate_succ, Array.replicate_zero, List.push_toArray, List.append_toArray, List.nil_append, List.cons_append]
  gi_wp2_with (refine ⟨trivial, ?_⟩; gi_at_call 34; refine (callsIn_wide.2 (orEmpty_any (.func gf) #[] lb _)).mono ?_; rintro e w' ⟨rfl, rfl⟩)
  clear cs
  have hz1 : (W.alloc (.cells #[.func (.yield l) #[] #[]] 32)).heap.size = W.heap.size + 1 := by simp
  have hKW1 : ∀ k, K k → k < W.heap.size := fun k hk => hKW k (.inr (.inr hk))
  refine wpIn_range (K := K) (T := T) (xs := xs) (Gs := Gs) (G := G) (gf := gf) (lb := lb) rfl eg hit (fun _ => rfl) (fun k hk => by have := hKW1 k hk; omega) (fun k hk => by have := hTW k hk; omega) hGs hGss (hGss _ _ hGs0 (hca _))
    (fun M zs V => J M (mapM mk zs) V ∧ Boxed V bs 25 (.func (.func gf) #[] lb) ∧ Boxed V bm 34 (.func (.func mf) #[] ml) ∧ Boxed V W.heap.size 32 (.func (.yield l) #[] #[]))
    (fun c M zs V => c = .ret ∧ Jx M (mapM mk zs) V ∧ Boxed V bs 25 (.func (.func gf) #[] lb) ∧ Boxed V bm 34 (.func (.func mf) #[] ml)) ?hI ?hIx ?h0
    (fun x => { tmps := #[.func (.yield l) #[] #[], .pointer (some ⟨bs, 0, none⟩), .pointer (some ⟨bm, 0, none⟩), .pointer (some ⟨W.heap.size, 0, none⟩), .string x.1, .int .i64 x.2, undef, .func (.func gf) #[] lb, .func (.func gf) #[] lb, .string x.1, .int .i64 x.2, undef, undef, undef, undef, undef, undef, undef, undef, undef, undef, undef], defers := [] }) ?assign ?body ?done ?stop
  case hI =>
    rintro M pre hM A B ⟨hj, b1, b2, b3⟩ hch
    rw [hz1] at hM
    refine ⟨hJ M _ (by omega) A B hj (hch.mono ?_), hch.boxed b1 ?_, hch.boxed b2 ?_, hch.boxed b3 ?_⟩
    · rintro j _ (h | ⟨h, h'⟩)
      · exact .inl h
      · exact .inr ⟨by omega, h'⟩
    · rintro (h | ⟨h, _⟩)
      · exact (hTb _ h).1 rfl
      · omega
    · rintro (h | ⟨h, _⟩)
      · exact (hTb _ h).2 rfl
      · omega
    · rintro (h | ⟨h, _⟩)
      · have := hTW _ h; omega
      · omega
  case hIx =>
    rintro c M pre hM A B ⟨hc, hj, b1, b2⟩ hch
    rw [hz1] at hM
    refine ⟨hc, hJx M _ (by omega) A B hj (hch.mono ?_), hch.boxed b1 ?_, hch.boxed b2 ?_⟩
    · rintro j _ (h | ⟨h, h'⟩)
      · exact .inl h
      · exact .inr ⟨by omega, h'⟩
    · rintro (h | ⟨h, _⟩)
      · exact (hTb _ h).1 rfl
      · omega
    · rintro (h | ⟨h, _⟩)
      · exact (hTb _ h).2 rfl
      · omega
  case h0 =>
    intro W' hc
    exact ⟨h0 W' ((hca T).tr hc), hc.boxed hbs1 (fun h => (hTb _ h).1 rfl), hc.boxed hbm1 (fun h => (hTb _ h).2 rfl), hc.boxed hy1 (fun h => by have := hTW _ h; omega)⟩
  case assign =>
    intro m l x W Kk hK
    simp only [enc2]
    gi_wp2
    exact hK
  case body =>
    rintro m l' M zs x V hM1 hM2 ⟨hj, b1, b2, b3⟩ hpre
    rw [hz1] at hM1 ⊢
    have hk := hmk x V
    have hfe : mapM mk (zs ++ [x]) = mapM mk zs ++ [(x.1, mk x)] := by unfold mapM; rw [List.map_append]; rfl
    have hfp : mapM mk zs ++ [(x.1, mk x)] <+: mapM mk xs := by rw [← hfe]; exact mapM_prefix hpre
    have hYY := fun (mm : Nat) => hY M (mapM mk zs) (x.1, mk x) V mm (by omega) hM2 hj hfp
    obtain ⟨kk, vv⟩ := x
    unfold enc2 at hk hYY
    dsimp only at hk hYY hfe
    have HFE := Lib.hid hfe
    clear hfp hfe
    generalize mk (kk, vv) = zz at hk hYY HFE
    have ck := b2.cell
    have cy := b3.cell
    obtain ⟨fn, tmps, assign, body, hyr, hR⟩ := hYY (m - 1)
    clear hYY
    gi_wp2
    refine ⟨trivial, (fun h => by cases h), ?_⟩
    refine (CallsIn.inRound l' (callsIn_wide.2 hk)).mono ?_
    clear hk
    rintro e V2 ⟨rfl, rfl⟩
    gi_wp2
    refine ⟨(fun h => by cases h), ?_⟩
    refine RoundIn.mono hR ?_
    clear hR hyr ck cy
    rintro e V3 (⟨rfl, hj3, hc3⟩ | ⟨rfl, hj3, hc3⟩)
    all_goals
      have b13 := hc3.boxed b1 (fun h => h.1 (.inl rfl))
      have b23 := hc3.boxed b2 (fun h => h.1 (.inr (.inl rfl)))
      have b33 := hc3.boxed b3 (fun h => h.2 ⟨Nat.le_refl _, by omega⟩)
      have hcc := hc3.mono (S' := fun k => ¬ K k ∧ ¬ (W.heap.size + 1 ≤ k ∧ k < M)) (fun j _ h => ⟨fun hk => h.1 (.inr (.inr hk)), fun hk => h.2 ⟨by omega, hk.2⟩⟩)
      rw [← HFE.out] at hj3
      clear hc3
      gi_wp2
    · exact ⟨hcc, hj3, b13, b23, b33⟩
    · exact ⟨hcc, rfl, hj3, b13, b23⟩
  case done =>
    rintro D M V hD hDM hMV ⟨hj, b1, b2, b3⟩ hG3 hd
    rw [hz1] at hD
    gi_wp2
    refine ⟨by simp, .inl ⟨_, _, rfl, run_takeDeferred hd, ?_⟩⟩
    have hp : ∀ S : Nat → Prop, S D → Ch S V (V.putObj D (.deferred none)) := fun S h => Ch.putObj _ _ _ fun _ => h
    have hDk : ∀ k, MadeK bs bm K k → k ≠ D := fun k hk => by have := hKW k hk; omega
    exact ⟨_, results_none rfl _ _ _, ⟨_, rfl⟩, M, by omega, by simpa using hMV, .inl ⟨hJ M _ (by omega) _ _ hj (hp _ (.inr ⟨by omega, hDM⟩)),
      (hp (fun k => k = D) rfl).boxed b1 (fun h => by omega), (hp (fun k => k = D) rfl).boxed b2 (fun h => by omega), xs, List.prefix_refl _, rfl, hGs _ _ _ hG3 (hp _ fun hk => hDk D (.inr (.inr hk)) rfl)⟩⟩
  case stop =>
    rintro D M c pre V hD hDM hMV hpre ⟨rfl, hj, b1, b2⟩ hG3 hd
    rw [hz1] at hD
    gi_wp2
    refine ⟨by simp, .inl ⟨_, _, rfl, run_takeDeferred hd, ?_⟩⟩
    have hp : ∀ S : Nat → Prop, S D → Ch S V (V.putObj D (.deferred none)) := fun S h => Ch.putObj _ _ _ fun _ => h
    have hDk : ∀ k, MadeK bs bm K k → k ≠ D := fun k hk => by have := hKW k hk; omega
    exact ⟨_, results_none rfl _ _ _, ⟨_, rfl⟩, M, by omega, by simpa using hMV, .inr ⟨_, mapM_prefix hpre, hJx M _ (by omega) _ _ hj (hp _ (.inr ⟨by omega, hDM⟩)),
      (hp (fun k => k = D) rfl).boxed b1 (fun h => by omega), (hp (fun k => k = D) rfl).boxed b2 (fun h => by omega), pre, hpre, rfl, hGs _ _ _ hG3 (hp _ fun hk => hDk D (.inr (.inr hk)) rfl)⟩⟩
end Go.Proofs.Ytlgamaldngkdnaa
