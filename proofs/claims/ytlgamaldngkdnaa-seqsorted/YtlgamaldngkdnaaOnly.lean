/- Walks of Only and its run. -/
import Derived.Test.YtlgamaldngkdnaaOf
namespace Go.Proofs.Ytlgamaldngkdnaa
open Go Go.RowKit Go.Shelf
attribute [local go_sem] Oper.semAt_some

def onlyRun (bk bs : Nat) : Value := .func (.func 33) #[] #[.pointer (some ⟨bk, 0, none⟩), .pointer (some ⟨bs, 0, none⟩)]
set_option maxHeartbeats 400000 in
theorem only_any (fs fk : Value) (f1 f2 : Fn) (t1 l1 t2 l2 : Array Value) (h1 : fs = .func f1 t1 l1) (h2 : fk = .func f2 t2 l2) (w : World) :
    Calls Try.prog 12 #[fs, fk] w fun e w' => e = .returned (onlyRun (w.heap.size + 1) w.heap.size) ∧ Boxed w' (w.heap.size + 1) 32 fk ∧ Boxed w' w.heap.size 25 fs ∧ Ch (fun _ => False) w w' ∧ w'.heap.size = w.heap.size + 2 := by
  subst h1 h2
  go_enter Try.func12, Try.ntmps12
  go_wp2
  go_ret
  have b1 := Boxed.new w 25 (.func f1 t1 l1)
  have b2 := Boxed.new (w.alloc (.cells #[.func f1 t1 l1] 25)) 32 (.func f2 t2 l2)
  rw [World.size_alloc] at b2
  exact ⟨rfl, b2, b1.alloc _, (Ch.alloc _ w _).tr (Ch.alloc _ _ _), by simp⟩

/-- What keep is handed, and what it answers: p tells of a pair whether it is kept; Gk: how keep stands when so much has come; Kk: what must be kept for it; Tk: what it turns. -/
def Keep (kf : Nat) (kl : Array Value) (p : Pr → Bool) (xs : List Pr) (Tk : Nat → Prop) (Gk : List Pr → World → Prop) : Prop :=
  ∀ (zs : List Pr) (x : Pr) (W : World), (zs ++ [x]) <+: xs → Gk zs W → Calls Try.prog kf (enc2 x ++ kl) W fun e W' => e = .returned (.bool (p x)) ∧ Gk (zs ++ [x]) W' ∧ Ch Tk W W'
def OnlyK (bk bs : Nat) (K Kk : Nat → Prop) (k : Nat) : Prop := k = bk ∨ k = bs ∨ K k ∨ Kk k
def OnlyGs (bk bs : Nat) (fk fs : Value) (Gs : World → Prop) (Gk : List Pr → World → Prop) (W : World) : Prop := Boxed W bk 32 fk ∧ Boxed W bs 25 fs ∧ Gs W ∧ Gk [] W
def OnlyG (bk bs : Nat) (fk fs : Value) (p : Pr → Bool) (xs : List Pr) (G : List Pr → World → Prop) (Gk : List Pr → World → Prop) (ys : List Pr) (W : World) : Prop :=
  Boxed W bk 32 fk ∧ Boxed W bs 25 fs ∧ ∃ zs, zs <+: xs ∧ zs.filter p = ys ∧ G zs W ∧ Gk zs W
theorem filter_prefix {p : Pr → Bool} {zs xs : List Pr} (h : zs <+: xs) : zs.filter p <+: xs.filter p := by
  obtain ⟨r, rfl⟩ := h
  rw [List.filter_append]
  exact List.prefix_append _ _

set_option maxRecDepth 100000 in
set_option maxHeartbeats 1000000 in
theorem only_iter {gf : Nat} {lb : Array Value} (eg : ∀ args w, (callFunc gf args).run Try.prog w = .ok (.enter gf args) w) {K T : Nat → Prop} {xs : List Pr} {Gs : World → Prop} {G : List Pr → World → Prop} (hit : Iter Try.prog gf lb enc2 K T xs Gs G)
    (hGs : ∀ pre, Stab (fun k => ¬ K k) (G pre)) (hGss : Stab (fun k => ¬ K k) Gs)
    {kf : Nat} {kl : Array Value} (ek : ∀ args w, (callFunc kf args).run Try.prog w = .ok (.enter kf args) w) {p : Pr → Bool} {Tk Kk : Nat → Prop} {Gk : List Pr → World → Prop} (hkeep : Keep kf kl p xs Tk Gk) (hGk : ∀ zs, Stab (fun k => ¬ Kk k) (Gk zs)) (hTkK : ∀ k, Tk k → ¬ K k) (hTKk : ∀ k, T k → ¬ Kk k)
    (bk bs : Nat) (hTb : ∀ k, T k ∨ Tk k → k ≠ bk ∧ k ≠ bs) :
    Iter Try.prog 33 #[.pointer (some ⟨bk, 0, none⟩), .pointer (some ⟨bs, 0, none⟩)] enc2 (OnlyK bk bs K Kk) (fun k => T k ∨ Tk k) (xs.filter p)
      (OnlyGs bk bs (.func (.func kf) #[] kl) (.func (.func gf) #[] lb) Gs Gk) (OnlyG bk bs (.func (.func kf) #[] kl) (.func (.func gf) #[] lb) p xs G Gk) := by
  intro l J Jx W n hKW hTW hJ hJx hY h0 hG
  obtain ⟨hbk, hbs, hGs0, hGk0⟩ := hG
  have hnil := eql_nil32
  have hnk : bk < W.heap.size := hbk.lt
  have hns : bs < W.heap.size := hbs.lt
  have hca : ∀ S : Nat → Prop, Ch S W (W.alloc (.cells #[.func (.yield l) #[] #[]] 32)) := fun S => Ch.alloc S W _
  have hbk1 := (hca (fun _ => False)).boxed hbk id
  have hbs1 := (hca (fun _ => False)).boxed hbs id
  have hy1 := Boxed.new W 32 (.func (.yield l) #[] #[])
  have ck := hbk1.cell
  have cs := hbs1.cell
  refine callsIn_wide.2 ((callsIn_wide (n := 3)).1 ?_)
  refine callsIn_of_wp_marks Try.func33 rfl trivial ?_ rfl
  simp only [Try.ntmps33, List.size_toArray, List.length_cons, List.length_nil, Nat.reduceAdd, Nat.reduceSub, Array.replicate_succ, Array.replicate_zero, List.push_toArray, List.append_toArray, List.nil_append, List.cons_append]
  gi_wp2_with (refine ⟨trivial, ?_⟩; gi_at_call 34; refine (callsIn_wide.2 (orEmpty_any (.func gf) #[] lb _)).mono ?_; rintro e w' ⟨rfl, rfl⟩)
  clear ck cs hnil
  have hz1 : (W.alloc (.cells #[.func (.yield l) #[] #[]] 32)).heap.size = W.heap.size + 1 := by simp
  have hKW1 : ∀ k, K k → k < W.heap.size := fun k hk => hKW k (.inr (.inr (.inl hk)))
  have hTW1 : ∀ k, T k → k < W.heap.size := fun k hk => hTW k (.inl hk)
  refine wpIn_range (K := K) (T := T) (xs := xs) (Gs := Gs) (G := G) (gf := gf) (lb := lb) rfl eg hit (fun _ => rfl) (fun k hk => by have := hKW1 k hk; omega) (fun k hk => by have := hTW1 k hk; omega) hGs hGss (hGss _ _ hGs0 (hca _))
    (fun M zs V => (J M (zs.filter p) V ∧ Gk zs V) ∧ Boxed V bk 32 (.func (.func kf) #[] kl) ∧ Boxed V bs 25 (.func (.func gf) #[] lb) ∧ Boxed V W.heap.size 32 (.func (.yield l) #[] #[]))
    (fun c M zs V => c = .ret ∧ (Jx M (zs.filter p) V ∧ Gk zs V) ∧ Boxed V bk 32 (.func (.func kf) #[] kl) ∧ Boxed V bs 25 (.func (.func gf) #[] lb)) ?hI ?hIx ?h0
    (fun x => { tmps := #[.func (.yield l) #[] #[], .pointer (some ⟨bk, 0, none⟩), .pointer (some ⟨bs, 0, none⟩), .pointer (some ⟨W.heap.size, 0, none⟩), .string x.1, .int .i64 x.2, .func (.func kf) #[] kl, .bool false, .func (.func gf) #[] lb, .func (.func gf) #[] lb, .string x.1, .int .i64 x.2, undef, undef, undef, undef, undef, undef, undef, undef, undef, undef, undef], defers := [] }) ?assign ?body ?done ?stop
  case hI =>
    rintro M pre hM A B ⟨⟨hj, hg⟩, b1, b2, b3⟩ hch
    rw [hz1] at hM
    refine ⟨⟨hJ M _ (by omega) A B hj (hch.mono ?_), hGk pre A B hg (hch.mono ?_)⟩, hch.boxed b1 ?_, hch.boxed b2 ?_, hch.boxed b3 ?_⟩
    · rintro j _ (h | ⟨h, h'⟩)
      · exact .inl (.inl h)
      · exact .inr ⟨by omega, h'⟩
    · rintro j _ (h | ⟨h, h'⟩) hk
      · exact hTKk j h hk
      · have := hKW j (.inr (.inr (.inr hk))); omega
    · rintro (h | ⟨h, _⟩)
      · exact (hTb _ (.inl h)).1 rfl
      · omega
    · rintro (h | ⟨h, _⟩)
      · exact (hTb _ (.inl h)).2 rfl
      · omega
    · rintro (h | ⟨h, _⟩)
      · have := hTW1 _ h; omega
      · omega
  case hIx =>
    rintro c M pre hM A B ⟨hc, ⟨hj, hg⟩, b1, b2⟩ hch
    rw [hz1] at hM
    refine ⟨hc, ⟨hJx M _ (by omega) A B hj (hch.mono ?_), hGk pre A B hg (hch.mono ?_)⟩, hch.boxed b1 ?_, hch.boxed b2 ?_⟩
    · rintro j _ (h | ⟨h, h'⟩)
      · exact .inl (.inl h)
      · exact .inr ⟨by omega, h'⟩
    · rintro j _ (h | ⟨h, h'⟩) hk
      · exact hTKk j h hk
      · have := hKW j (.inr (.inr (.inr hk))); omega
    · rintro (h | ⟨h, _⟩)
      · exact (hTb _ (.inl h)).1 rfl
      · omega
    · rintro (h | ⟨h, _⟩)
      · exact (hTb _ (.inl h)).2 rfl
      · omega
  case h0 =>
    intro W' hc
    have hcW : Ch T W W' := (hca T).tr hc
    exact ⟨⟨h0 W' (hcW.mono fun j _ h => .inl h), hGk [] _ _ hGk0 (hcW.mono fun j _ h => hTKk j h)⟩, hc.boxed hbk1 (fun h => (hTb _ (.inl h)).1 rfl), hc.boxed hbs1 (fun h => (hTb _ (.inl h)).2 rfl), hc.boxed hy1 (fun h => by have := hTW1 _ h; omega)⟩
  case assign =>
    intro m l x W Kk hK
    simp only [enc2]
    gi_wp2
    exact hK
  case body =>
    rintro m l' M zs x V hM1 hM2 ⟨⟨hj, hg⟩, b1, b2, b3⟩ hpre
    rw [hz1] at hM1 ⊢
    have hk := hkeep zs x V hpre hg
    have hfp : (zs ++ [x]).filter p <+: xs.filter p := filter_prefix hpre
    have hYY := fun (V2 : World) (mm : Nat) (h1 : M ≤ V2.heap.size) (h2 : J M (zs.filter p) V2) (h3 : p x = true) => hY M (zs.filter p) x V2 mm (by omega) h1 h2 (by rw [List.filter_append, List.filter_cons_of_pos h3] at hfp; exact hfp)
    obtain ⟨kk, vv⟩ := x
    unfold enc2 at hk hYY
    dsimp only at hk hYY
    have ck := b1.cell
    have HY := Lib.hid hYY
    clear hYY
    gi_wp2
    refine ⟨trivial, (fun h => by cases h), ?_⟩
    refine (CallsIn.inRound l' (callsIn_wide.2 hk)).mono ?_
    clear hk
    rintro e V2 ⟨rfl, hg2, hc2⟩
    have hz2 := hc2.size
    have hj2 := hJ M _ (by omega) _ _ hj (hc2.mono fun j _ h => .inl (.inr h))
    have b12 := hc2.boxed b1 (fun h => (hTb _ (.inr h)).1 rfl)
    have b22 := hc2.boxed b2 (fun h => (hTb _ (.inr h)).2 rfl)
    have b32 := hc2.boxed b3 (fun h => by have := hTW _ (.inr h); omega)
    have hTkS : ∀ j, Tk j → (¬ K j ∧ ¬ (W.heap.size + 1 ≤ j ∧ j < M)) := fun j h => ⟨hTkK j h, fun h' => by have := hTW _ (.inr h); omega⟩
    clear hj hg b1 b2 b3 ck
    cases hp : p (kk, vv) with
    | false =>
      have HP := Lib.hid hp
      clear hp
      gi_wp2
      refine ⟨(fun _ h => by cases h), ?_⟩
      gi_wp2
      exact ⟨hc2.mono fun j _ h => hTkS j h, ⟨by rw [List.filter_append, List.filter_cons_of_neg (by rw [HP.out]; simp), List.filter_nil, List.append_nil]; exact hj2, hg2⟩, b12, b22, b32⟩
    | true =>
      have HP := Lib.hid hp
      have hy := fun mm => HY.out V2 mm (by omega) hj2 hp
      clear hp
      have cy := b32.cell
      obtain ⟨fn, tmps, assign, body, hyr, hR⟩ := hy (m - 1)
      clear hy
      gi_wp2
      refine ⟨(fun h => by cases h), ?_⟩
      refine RoundIn.mono hR ?_
      clear hR hyr
      have hfe : (zs ++ [(kk, vv)]).filter p = zs.filter p ++ [(kk, vv)] := by rw [List.filter_append, List.filter_cons_of_pos HP.out, List.filter_nil]
      rintro e V3 (⟨rfl, hj3, hc3⟩ | ⟨rfl, hj3, hc3⟩)
      all_goals
        have hg3 := hGk _ _ _ hg2 (hc3.mono fun j _ h hk => h.1 (.inr (.inr (.inr hk))))
        have b13 := hc3.boxed b12 (fun h => h.1 (.inl rfl))
        have b23 := hc3.boxed b22 (fun h => h.1 (.inr (.inl rfl)))
        have b33 := hc3.boxed b32 (fun h => h.2 ⟨Nat.le_refl _, by omega⟩)
        have hcc : Ch (fun k => ¬ K k ∧ ¬ (W.heap.size + 1 ≤ k ∧ k < M)) V V3 := (hc2.mono fun j _ h => hTkS j h).trans hc3 (fun j _ h => ⟨fun hk => h.1 (.inr (.inr (.inl hk))), fun hk => h.2 ⟨by omega, hk.2⟩⟩)
        rw [← hfe] at hj3
        gi_wp2
      · exact ⟨hcc, ⟨hj3, hg3⟩, b13, b23, b33⟩
      · exact ⟨hcc, rfl, ⟨hj3, hg3⟩, b13, b23⟩
  case done =>
    rintro D M V hD hDM hMV ⟨⟨hj, hg⟩, b1, b2, b3⟩ hG3 hd
    rw [hz1] at hD
    gi_wp2
    refine ⟨by simp, .inl ⟨_, _, rfl, run_takeDeferred hd, ?_⟩⟩
    have hp : ∀ S : Nat → Prop, S D → Ch S V (V.putObj D (.deferred none)) := fun S h => Ch.putObj _ _ _ fun _ => h
    have hDk : ∀ k, OnlyK bk bs K Kk k → k ≠ D := fun k hk => by have := hKW k hk; omega
    exact ⟨_, results_none rfl _ _ _, ⟨_, rfl⟩, M, by omega, by simpa using hMV, .inl ⟨hJ M _ (by omega) _ _ hj (hp _ (.inr ⟨by omega, hDM⟩)),
      (hp (fun k => k = D) rfl).boxed b1 (fun h => by omega), (hp (fun k => k = D) rfl).boxed b2 (fun h => by omega), xs, List.prefix_refl _, rfl, hGs _ _ _ hG3 (hp _ fun hk => hDk D (.inr (.inr (.inl hk))) rfl), hGk _ _ _ hg (hp _ fun hk => hDk D (.inr (.inr (.inr hk))) rfl)⟩⟩
  case stop =>
    rintro D M c pre V hD hDM hMV hpre ⟨rfl, ⟨hj, hg⟩, b1, b2⟩ hG3 hd
    rw [hz1] at hD
    gi_wp2
    refine ⟨by simp, .inl ⟨_, _, rfl, run_takeDeferred hd, ?_⟩⟩
    have hp : ∀ S : Nat → Prop, S D → Ch S V (V.putObj D (.deferred none)) := fun S h => Ch.putObj _ _ _ fun _ => h
    have hDk : ∀ k, OnlyK bk bs K Kk k → k ≠ D := fun k hk => by have := hKW k hk; omega
    exact ⟨_, results_none rfl _ _ _, ⟨_, rfl⟩, M, by omega, by simpa using hMV, .inr ⟨_, filter_prefix hpre, hJx M _ (by omega) _ _ hj (hp _ (.inr ⟨by omega, hDM⟩)),
      (hp (fun k => k = D) rfl).boxed b1 (fun h => by omega), (hp (fun k => k = D) rfl).boxed b2 (fun h => by omega), pre, hpre, rfl, hGs _ _ _ hG3 (hp _ fun hk => hDk D (.inr (.inr (.inl hk))) rfl), hGk _ _ _ hg (hp _ fun hk => hDk D (.inr (.inr (.inr hk))) rfl)⟩⟩
end Go.Proofs.Ytlgamaldngkdnaa
