/- Walks of Head and its run. -/
import Derived.Test.YtlgamaldngkdnaaOf
namespace Go.Proofs.Ytlgamaldngkdnaa
open Go Go.RowKit Go.Shelf
attribute [local go_sem] Oper.semAt_some

def headRun (bn bs : Nat) : Value := .func (.func 36) #[] #[.pointer (some ⟨bn, 0, none⟩), .pointer (some ⟨bs, 0, none⟩)]
set_option maxHeartbeats 400000 in
theorem head_any (fs : Value) (f1 : Fn) (t1 l1 : Array Value) (h1 : fs = .func f1 t1 l1) (n : Int) (w : World) :
    Calls Try.prog 18 #[fs, .int .i64 n] w fun e w' => e = .returned (headRun (w.heap.size + 1) w.heap.size) ∧ Boxed w' (w.heap.size + 1) 3 (.int .i64 n) ∧ Boxed w' w.heap.size 25 fs ∧ Ch (fun _ => False) w w' ∧ w'.heap.size = w.heap.size + 2 := by
  subst h1
  go_enter Try.func18, Try.ntmps18
  go_wp2
  go_ret
  have b1 := Boxed.new w 25 (.func f1 t1 l1)
  have b2 := Boxed.new (w.alloc (.cells #[.func f1 t1 l1] 25)) 3 (.int .i64 n)
  rw [World.size_alloc] at b2
  exact ⟨rfl, b2, b1.alloc _, (Ch.alloc _ w _).tr (Ch.alloc _ _ _), by simp⟩

def HeadK (bn bs : Nat) (K : Nat → Prop) (k : Nat) : Prop := k = bn ∨ k = bs ∨ K k
def HeadGs (bn bs : Nat) (n : Int) (fs : Value) (Gs : World → Prop) (W : World) : Prop := Boxed W bn 3 (.int .i64 n) ∧ Boxed W bs 25 fs ∧ Gs W
def HeadG (bn bs : Nat) (n : Int) (fs : Value) (G : List Pr → World → Prop) (ys : List Pr) (W : World) : Prop := Boxed W bn 3 (.int .i64 n) ∧ Boxed W bs 25 fs ∧ G ys W

set_option maxRecDepth 100000 in
set_option maxHeartbeats 1000000 in
theorem head_iter {gf : Nat} {lb : Array Value} (eg : ∀ args w, (callFunc gf args).run Try.prog w = .ok (.enter gf args) w) {K T : Nat → Prop} {xs : List Pr} {Gs : World → Prop} {G : List Pr → World → Prop} (hit : Iter Try.prog gf lb enc2 K T xs Gs G)
    (hGs : ∀ pre, Stab (fun k => ¬ K k) (G pre)) (hGss : Stab (fun k => ¬ K k) Gs) (hG0 : ∀ W, Gs W → G [] W) (z : Int) (hz64 : -9223372036854775808 ≤ z ∧ z ≤ 9223372036854775807) (_ : xs.length ≤ 1000)
    (bn bs : Nat) (hTb : ∀ k, T k → k ≠ bn ∧ k ≠ bs) :
    Iter Try.prog 36 #[.pointer (some ⟨bn, 0, none⟩), .pointer (some ⟨bs, 0, none⟩)] enc2 (HeadK bn bs K) T (xs.take z.toNat)
      (HeadGs bn bs z (.func (.func gf) #[] lb) Gs) (HeadG bn bs z (.func (.func gf) #[] lb) G) := by
  intro l J Jx W n hKW hTW hJ hJx hY h0 hG
  obtain ⟨hbn, hbs, hGs0⟩ := hG
  have hnn : bn < W.heap.size := hbn.lt
  have hns : bs < W.heap.size := hbs.lt
  have hca : ∀ S : Nat → Prop, Ch S W (W.alloc (.cells #[.func (.yield l) #[] #[]] 32)) := fun S => Ch.alloc S W _
  have hbn1 := (hca (fun _ => False)).boxed hbn id
  have hbs1 := (hca (fun _ => False)).boxed hbs id
  have hy1 := Boxed.new W 32 (.func (.yield l) #[] #[])
  have cn := hbn1.cell
  have HZ := Lib.hid hz64
  clear hz64
  refine callsIn_wide.2 ((callsIn_wide (n := 3)).1 ?_)
  refine callsIn_of_wp_marks Try.func36 rfl trivial ?_ rfl
  simp only [Try.ntmps36, List.size_toArray, List.length_cons, List.length_nil, Nat.reduceAdd, Nat.reduceSub, Array.replicate_succ, Array.replicate_zero, List.push_toArray, List.append_toArray, List.nil_append, List.cons_append]
  by_cases hzp : z ≤ 0
  · gi_wp2
    have ht : xs.take z.toNat = [] := by rw [show z.toNat = 0 by omega]; rfl
    refine ⟨_, results_none rfl _ _ _, ⟨_, rfl⟩, (W.alloc (.cells #[.func (.yield l) #[] #[]] 32)).heap.size, by simp, Nat.le_refl _, .inl ⟨?_, hbn1, hbs1, ?_⟩⟩
    · rw [ht]; exact h0 _ (hca _)
    · rw [ht]; exact hG0 _ (hGss _ _ hGs0 (hca _))
  · have hz1 : ((W.alloc (.cells #[.func (.yield l) #[] #[]] 32)).alloc (.cells #[.int .i64 z] 3)).heap.size = W.heap.size + 2 := by simp
    have hcb : ∀ S : Nat → Prop, Ch S W ((W.alloc (.cells #[.func (.yield l) #[] #[]] 32)).alloc (.cells #[.int .i64 z] 3)) := fun S => (hca S).tr (Ch.alloc S _ _)
    have hbn2 := hbn1.alloc (.cells #[.int .i64 z] 3)
    have hbs2 := hbs1.alloc (.cells #[.int .i64 z] 3)
    have hy2 := hy1.alloc (.cells #[.int .i64 z] 3)
    have hl2 := Boxed.new (W.alloc (.cells #[.func (.yield l) #[] #[]] 32)) 3 (.int .i64 z)
    rw [World.size_alloc] at hl2
    have cs := hbs2.cell
    gi_wp2_with (refine ⟨trivial, ?_⟩; gi_at_call 34; refine (callsIn_wide.2 (orEmpty_any (.func gf) #[] lb _)).mono ?_; rintro e w' ⟨rfl, rfl⟩)
    clear cs cn
    have hKW1 : ∀ k, K k → k < W.heap.size := fun k hk => hKW k (.inr (.inr hk))
    have hzp' : (0 : Int) < z := by omega
    refine wpIn_range (K := K) (T := T) (xs := xs) (Gs := Gs) (G := G) (gf := gf) (lb := lb) rfl eg hit (fun _ => rfl) (fun k hk => by have := hKW1 k hk; omega) (fun k hk => by have := hTW k hk; omega) hGs hGss (hGss _ _ hGs0 (hcb _))
      (fun M pre V => (J M pre V ∧ (pre.length : Int) < z) ∧ Boxed V bn 3 (.int .i64 z) ∧ Boxed V bs 25 (.func (.func gf) #[] lb) ∧ Boxed V W.heap.size 32 (.func (.yield l) #[] #[]) ∧ Boxed V (W.heap.size + 1) 3 (.int .i64 (z - (pre.length : Int))))
      (fun c M pre V => c = .ret ∧ ((Jx M pre V ∨ (J M pre V ∧ (pre.length : Int) = z)) ∧ (pre.length : Int) ≤ z) ∧ Boxed V bn 3 (.int .i64 z) ∧ Boxed V bs 25 (.func (.func gf) #[] lb)) ?hI ?hIx ?h0
      (fun x => { tmps := #[.func (.yield l) #[] #[], .pointer (some ⟨bn, 0, none⟩), .pointer (some ⟨bs, 0, none⟩), .pointer (some ⟨W.heap.size, 0, none⟩), .pointer (some ⟨W.heap.size + 1, 0, none⟩), .string x.1, .int .i64 x.2, .int .i64 z, .bool false, .int .i64 z, .func (.func gf) #[] lb, .func (.func gf) #[] lb, .string x.1, .int .i64 x.2, undef, undef, undef, undef, undef, undef, undef, undef, undef, undef, undef], defers := [] }) ?assign ?body ?done ?stop
    case hI =>
      rintro M pre hM A B ⟨⟨hj, hlt⟩, b1, b2, b3, b4⟩ hch
      rw [hz1] at hM
      refine ⟨⟨hJ M _ (by omega) A B hj (hch.mono ?_), hlt⟩, hch.boxed b1 ?_, hch.boxed b2 ?_, hch.boxed b3 ?_, hch.boxed b4 ?_⟩
      · rintro j _ (h | ⟨h, h'⟩)
        · exact .inl h
        · exact .inr ⟨by omega, h'⟩
      · rintro (h | ⟨h, _⟩)
        · exact (hTb _ h).1 rfl
        · omega
      · rintro (h | ⟨h, _⟩)
        · exact (hTb _ h).2 rfl
        · omega
      · rintro (h | ⟨h, _⟩)
        · have := hTW _ h; omega
        · omega
      · rintro (h | ⟨h, _⟩)
        · have := hTW _ h; omega
        · omega
    case hIx =>
      rintro c M pre hM A B ⟨hc, ⟨hj, hlt⟩, b1, b2⟩ hch
      rw [hz1] at hM
      have hch' : Ch (fun k => T k ∨ W.heap.size ≤ k ∧ k < M) A B := hch.mono fun j _ h => h.imp id fun h => ⟨by omega, h.2⟩
      refine ⟨hc, ⟨hj.imp (fun h => hJx M _ (by omega) A B h hch') (fun h => ⟨hJ M _ (by omega) A B h.1 hch', h.2⟩), hlt⟩, hch.boxed b1 ?_, hch.boxed b2 ?_⟩
      · rintro (h | ⟨h, _⟩)
        · exact (hTb _ h).1 rfl
        · omega
      · rintro (h | ⟨h, _⟩)
        · exact (hTb _ h).2 rfl
        · omega
    case h0 =>
      intro W' hc
      exact ⟨⟨h0 W' ((hcb T).tr hc), by simpa using hzp'⟩, hc.boxed hbn2 (fun h => (hTb _ h).1 rfl), hc.boxed hbs2 (fun h => (hTb _ h).2 rfl), hc.boxed hy2 (fun h => by have := hTW _ h; omega), by
        have := hc.boxed hl2 (fun h => by have := hTW _ h; omega)
        simpa using this⟩
    case assign =>
      intro m l x W Kk hK
      simp only [enc2]
      gi_wp2
      exact hK
    case body =>
      rintro m l' M pre x V hM1 hM2 ⟨⟨hj, hlt⟩, b1, b2, b3, b4⟩ hpre
      rw [hz1] at hM1 ⊢
      have hpl := hpre.length_le
      have hpz : (pre ++ [x]) <+: xs.take z.toNat := by
        rw [List.prefix_take_iff]
        exact ⟨hpre, by simp; omega⟩
      have hj1 := hJ M _ (by omega) _ _ hj (Ch.setCell V ⟨W.heap.size + 1, 0, none⟩ (.int .i64 (z - (pre.length : Int) - 1)) fun _ => .inr ⟨by simp, by simp; omega⟩)
      have hYY := fun mm => hY M pre x (V.setCell ⟨W.heap.size + 1, 0, none⟩ (.int .i64 (z - (pre.length : Int) - 1))) mm (by omega) (by simpa [World.setCell] using hM2) hj1 hpz
      have b31 := b3.other (B' := W.heap.size + 1) (by omega) (.int .i64 (z - (pre.length : Int) - 1))
      have b41 := b4.set (.int .i64 (z - (pre.length : Int) - 1))
      have b11 := b1.other (B' := W.heap.size + 1) (by omega) (.int .i64 (z - (pre.length : Int) - 1))
      have b21 := b2.other (B' := W.heap.size + 1) (by omega) (.int .i64 (z - (pre.length : Int) - 1))
      have hc1 : Ch (fun k => ¬ K k ∧ ¬ (W.heap.size + 2 ≤ k ∧ k < M)) V (V.setCell ⟨W.heap.size + 1, 0, none⟩ (.int .i64 (z - (pre.length : Int) - 1))) := Ch.setCell _ _ _ fun _ => ⟨fun hk => by have := hKW1 _ hk; simp at this; omega, fun h => by simp at h⟩
      have e1 : IntKind.i64.wrap (z - (pre.length : Int) - 1) = z - (pre.length : Int) - 1 := IntWalk.i64_in _ (by have := HZ.out; omega)
      obtain ⟨kk, vv⟩ := x
      unfold enc2 at hYY
      dsimp only at hYY
      have c4 := b4.cell
      have f4 := b4.frozen
      have c3 := b31.cell
      obtain ⟨fn, tmps, assign, body, hyr, hR⟩ := hYY (m - 1)
      have HB := Lib.hid (And.intro hj1 (And.intro b31 (And.intro b41 (And.intro b11 (And.intro b21 (And.intro hc1 hpz))))))
      have HPL := Lib.hid hpl
      clear hYY hj hj1 b1 b2 b3 b4 b31 b41 b11 b21 hc1 hpl hpz hpre
      gi_wp2
      refine ⟨(fun h => by cases h), ?_⟩
      refine RoundIn.mono hR ?_
      clear hR hyr c4 f4 c3 e1
      obtain ⟨hj1, b31, b41, b11, b21, hc1, hpz⟩ := HB.out
      rintro e V3 (⟨rfl, hj3, hc3⟩ | ⟨rfl, hj3, hc3⟩)
      all_goals
        have b13 := hc3.boxed b11 (fun h => h.1 (.inl rfl))
        have b23 := hc3.boxed b21 (fun h => h.1 (.inr (.inl rfl)))
        have b33 := hc3.boxed b31 (fun h => h.2 ⟨Nat.le_refl _, by omega⟩)
        have b43 := hc3.boxed b41 (fun h => h.2 ⟨by omega, by omega⟩)
        have hcc : Ch (fun k => ¬ K k ∧ ¬ (W.heap.size + 2 ≤ k ∧ k < M)) V V3 := hc1.trans hc3 (fun j _ h => ⟨fun hk => h.1 (.inr (.inr hk)), fun hk => h.2 ⟨by omega, hk.2⟩⟩)
        have hpl : ((pre ++ [(kk, vv)]).length : Int) = (pre.length : Int) + 1 := by simp
        clear hj1 b31 b41 b11 b21 hc1 hc3 HB
      · have c43 := b43.cell
        by_cases hz0 : z - (pre.length : Int) - 1 = 0
        · have ht : (z - (pre.length : Int) - 1 == 0) = true := by rw [hz0]; rfl
          have HZ0 := Lib.hid hz0
          have HPP := Lib.hid hpl
          clear hz0 hpl
          gi_wp2
          exact ⟨hcc, rfl, ⟨.inr ⟨hj3, by have := HZ0.out; have := HPP.out; omega⟩, by have := HZ0.out; have := HPP.out; omega⟩, b13, b23⟩
        · have ht : (z - (pre.length : Int) - 1 == 0) = false := by simpa using hz0
          have HZ0 := Lib.hid hz0
          have HPP := Lib.hid hpl
          clear hz0 hpl
          gi_wp2
          exact ⟨hcc, ⟨hj3, by have := HZ0.out; have := HPP.out; omega⟩, b13, b23, b33, by rw [HPP.out, show z - ((pre.length : Int) + 1) = z - (pre.length : Int) - 1 by omega]; exact b43⟩
      · have HPP := Lib.hid hpl
        clear hpl
        gi_wp2
        exact ⟨hcc, rfl, ⟨.inl hj3, by have := HPP.out; omega⟩, b13, b23⟩
    case done =>
      rintro D M V hD hDM hMV ⟨⟨hj, hlt⟩, b1, b2, b3, b4⟩ hG3 hd
      rw [hz1] at hD
      gi_wp2
      refine ⟨by simp, .inl ⟨_, _, rfl, run_takeDeferred hd, ?_⟩⟩
      have hp : ∀ S : Nat → Prop, S D → Ch S V (V.putObj D (.deferred none)) := fun S h => Ch.putObj _ _ _ fun _ => h
      have hDk : ∀ k, HeadK bn bs K k → k ≠ D := fun k hk => by have := hKW k hk; omega
      have ht : xs.take z.toNat = xs := List.take_of_length_le (by omega)
      rw [ht]
      exact ⟨_, results_none rfl _ _ _, ⟨_, rfl⟩, M, by omega, by simpa using hMV, .inl ⟨hJ M _ (by omega) _ _ hj (hp _ (.inr ⟨by omega, hDM⟩)),
        (hp (fun k => k = D) rfl).boxed b1 (fun h => by omega), (hp (fun k => k = D) rfl).boxed b2 (fun h => by omega), hGs _ _ _ hG3 (hp _ fun hk => hDk D (.inr (.inr hk)) rfl)⟩⟩
    case stop =>
      rintro D M c pre V hD hDM hMV hpre ⟨rfl, ⟨hj, hlt⟩, b1, b2⟩ hG3 hd
      rw [hz1] at hD
      gi_wp2
      refine ⟨by simp, .inl ⟨_, _, rfl, run_takeDeferred hd, ?_⟩⟩
      have hp : ∀ S : Nat → Prop, S D → Ch S V (V.putObj D (.deferred none)) := fun S h => Ch.putObj _ _ _ fun _ => h
      have hDk : ∀ k, HeadK bn bs K k → k ≠ D := fun k hk => by have := hKW k hk; omega
      have hgg : HeadG bn bs z (.func (.func gf) #[] lb) G pre (V.putObj D (.deferred none)) := ⟨(hp (fun k => k = D) rfl).boxed b1 (fun h => by omega), (hp (fun k => k = D) rfl).boxed b2 (fun h => by omega), hGs _ _ _ hG3 (hp _ fun hk => hDk D (.inr (.inr hk)) rfl)⟩
      refine ⟨_, results_none rfl _ _ _, ⟨_, rfl⟩, M, by omega, by simpa using hMV, ?_⟩
      rcases hj with hj | ⟨hj, he⟩
      · exact .inr ⟨pre, by rw [List.prefix_take_iff]; exact ⟨hpre, by omega⟩, hJx M _ (by omega) _ _ hj (hp _ (.inr ⟨by omega, hDM⟩)), hgg⟩
      · have ht : xs.take z.toNat = pre := by
          rw [show z.toNat = pre.length by omega]
          exact (List.prefix_iff_eq_take.1 hpre).symm
        rw [ht]
        exact .inl ⟨hJ M _ (by omega) _ _ hj (hp _ (.inr ⟨by omega, hDM⟩)), hgg⟩
end Go.Proofs.Ytlgamaldngkdnaa
