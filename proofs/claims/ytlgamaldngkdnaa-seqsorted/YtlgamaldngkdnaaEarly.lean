/- Walk of the law SeqEarly. -/
import Derived.Test.YtlgamaldngkdnaaAwaken
import Derived.Test.YtlgamaldngkdnaaOnly
import Derived.Test.YtlgamaldngkdnaaHead
namespace Go.Proofs.Ytlgamaldngkdnaa
open Go Go.RowKit

theorem enters33 : ∀ args w, (callFunc 33 args).run Try.prog w = .ok (.enter 33 args) w := enters_of Try.func33 (by kernel_rfl) rfl
theorem enters36 : ∀ args w, (callFunc 36 args).run Try.prog w = .ok (.enter 36 args) w := enters_of Try.func36 (by kernel_rfl) rfl
theorem enters29 : ∀ args w, (callFunc 29 args).run Try.prog w = .ok (.enter 29 args) w := enters_of Try.func29 (by kernel_rfl) rfl
theorem onlyG_stab {bk bs : Nat} {fk fs : Value} {p : Pr → Bool} {xs : List Pr} {K Kk : Nat → Prop} {G Gk : List Pr → World → Prop} (hG : ∀ zs, Stab (fun k => ¬ K k) (G zs)) (hGk : ∀ zs, Stab (fun k => ¬ Kk k) (Gk zs)) (ys : List Pr) :
    Stab (fun k => ¬ OnlyK bk bs K Kk k) (OnlyG bk bs fk fs p xs G Gk ys) := by
  rintro A B ⟨b1, b2, zs, h1, h2, h3, h4⟩ hc
  exact ⟨hc.boxed b1 (fun h => h (.inl rfl)), hc.boxed b2 (fun h => h (.inr (.inl rfl))), zs, h1, h2, hG zs A B h3 (hc.mono fun j _ h hk => h (.inr (.inr (.inl hk)))), hGk zs A B h4 (hc.mono fun j _ h hk => h (.inr (.inr (.inr hk))))⟩
theorem onlyGs_stab {bk bs : Nat} {fk fs : Value} {K Kk : Nat → Prop} {Gs : World → Prop} {Gk : List Pr → World → Prop} (hG : Stab (fun k => ¬ K k) Gs) (hGk : ∀ zs, Stab (fun k => ¬ Kk k) (Gk zs)) :
    Stab (fun k => ¬ OnlyK bk bs K Kk k) (OnlyGs bk bs fk fs Gs Gk) := by
  rintro A B ⟨b1, b2, h3, h4⟩ hc
  exact ⟨hc.boxed b1 (fun h => h (.inl rfl)), hc.boxed b2 (fun h => h (.inr (.inl rfl))), hG A B h3 (hc.mono fun j _ h hk => h (.inr (.inr (.inl hk)))), hGk [] A B h4 (hc.mono fun j _ h hk => h (.inr (.inr (.inr hk))))⟩
theorem headG_stab {bn bs : Nat} {n : Int} {fs : Value} {K : Nat → Prop} {G : List Pr → World → Prop} (hG : ∀ zs, Stab (fun k => ¬ K k) (G zs)) (ys : List Pr) :
    Stab (fun k => ¬ HeadK bn bs K k) (HeadG bn bs n fs G ys) := by
  rintro A B ⟨b1, b2, h3⟩ hc
  exact ⟨hc.boxed b1 (fun h => h (.inl rfl)), hc.boxed b2 (fun h => h (.inr (.inl rfl))), hG ys A B h3 (hc.mono fun j _ h hk => h (.inr (.inr hk)))⟩
theorem headGs_stab {bn bs : Nat} {n : Int} {fs : Value} {K : Nat → Prop} {Gs : World → Prop} (hG : Stab (fun k => ¬ K k) Gs) :
    Stab (fun k => ¬ HeadK bn bs K k) (HeadGs bn bs n fs Gs) := by
  rintro A B ⟨b1, b2, h3⟩ hc
  exact ⟨hc.boxed b1 (fun h => h (.inl rfl)), hc.boxed b2 (fun h => h (.inr (.inl rfl))), hG A B h3 (hc.mono fun j _ h hk => h (.inr (.inr hk)))⟩

/-- How often was asked. -/
def AskG (bA : Nat) (zs : List Pr) (W : World) : Prop := Boxed W bA 3 (.int .i64 (zs.length : Int))
theorem askG_stab (bA : Nat) (zs : List Pr) : Stab (fun k => ¬ (k = bA)) (AskG bA zs) := fun _ _ h hc => hc.boxed h (fun h => h rfl)
set_option maxHeartbeats 400000 in
theorem keep29 (bA : Nat) (xs : List Pr) (hn : xs.length ≤ 1000) : Keep 29 #[.pointer (some ⟨bA, 0, none⟩)] (fun _ => true) xs (fun k => k = bA) (AskG bA) := by
  rintro zs ⟨kk, vv⟩ W hpre hg
  have hl := hpre.length_le
  simp only [List.length_append, List.length_singleton] at hl
  have hc : W.cell? ⟨bA, 0, none⟩ = some (.int .i64 (zs.length : Int)) := hg.cell
  have hf : W.frozen? ⟨bA, 0, none⟩ = false := hg.frozen
  have e1 : IntKind.i64.wrap ((zs.length : Int) + 1) = (zs.length : Int) + 1 := IntWalk.i64_in _ (by omega)
  unfold enc2
  simp only [List.append_toArray, List.cons_append, List.nil_append]
  go_enter Try.func29, Try.ntmps29
  go_wp2
  go_ret
  refine ⟨rfl, ?_, Ch.setCell _ _ _ fun _ => rfl⟩
  unfold AskG
  rw [show ((zs ++ [(kk, vv)]).length : Int) = (zs.length : Int) + 1 by simp]
  exact Boxed.set _ hg
theorem take_len (xs : List Pr) (n : Int) : ((xs.take n.toNat).length : Int) = max 0 (min n (xs.length : Int)) := by
  rw [List.length_take]; omega

/-- The list of the head of what is kept, each time asked. -/
theorem early_run (b base : Nat) (v : Value) (xs : List Pr) (hx : xs.length ≤ 300) (n : Int) (hn : -9223372036854775808 ≤ n ∧ n ≤ 9223372036854775807) (bA bk bs bn bt : Nat) (W : World)
    (hg : OfG b base v xs W) (hA : AskG bA [] W) (hk : Boxed W bk 32 (.func (.func 29) #[] #[.pointer (some ⟨bA, 0, none⟩)])) (hs : Boxed W bs 25 (ofRun b)) (hn1 : Boxed W bn 3 (.int .i64 n)) (ht : Boxed W bt 25 (onlyRun bk bs))
    (hAK : ¬ OfK b v bA) (hAk : bA ≠ bk) (hAs : bA ≠ bs) (hAn : bA ≠ bn) (hAt : bA ≠ bt) :
    Calls Try.prog 17 #[headRun bn bt] W fun e W' => ∃ v, e = .returned v ∧ Boxed W' bA 3 (.int .i64 (max 0 (min n (xs.length : Int)))) ∧ Ch (fun k => k = bA) W W' := by
  have hit1 := of_iter b base v xs (by omega)
  have hAk' : ∀ k, k = bA → ¬ OfK b v k := fun k hk => hk ▸ hAK
  have hit2 := only_iter enters32 hit1 (fun _ => ofG_stab _ _ _ _) (ofG_stab _ _ _ _) enters29 (keep29 bA xs (by omega)) (askG_stab bA) hAk' (fun k h => h.elim) bk bs
    (fun k h => h.elim (fun h => h.elim) (fun h => h ▸ ⟨hAk, hAs⟩))
  have hf : xs.filter (fun _ => true) = xs := List.filter_eq_self.2 (fun _ _ => rfl)
  have hit3 := head_iter enters33 hit2 (onlyG_stab (fun _ => ofG_stab _ _ _ _) (askG_stab bA)) (onlyGs_stab (ofG_stab _ _ _ _) (askG_stab bA))
    (fun W h => ⟨h.1, h.2.1, [], List.nil_prefix, rfl, h.2.2⟩) n hn (by rw [hf]; omega) bn bt
    (fun k h => h.elim (fun h => h.elim) (fun h => h ▸ ⟨hAn, hAt⟩))
  rw [hf] at hit3
  refine (list_any enters36 hit3 (by rw [List.length_take]; omega) W ?_ ?_ (headG_stab (onlyG_stab (fun _ => ofG_stab _ _ _ _) (askG_stab bA))) (headGs_stab (onlyGs_stab (ofG_stab _ _ _ _) (askG_stab bA))) ⟨hn1, ht, hk, hs, hg, hA⟩).mono ?_
  · intro k h
    rcases h with h | h | h | h | h | h
    · rw [h]; exact hn1.lt
    · rw [h]; exact ht.lt
    · rw [h]; exact hk.lt
    · rw [h]; exact hs.lt
    · exact ofK_lt hg k h
    · rw [h]; exact hA.lt
  · intro k h
    rcases h with h | h
    · exact h.elim
    · rw [h]; exact hA.lt
  · rintro e w6 ⟨v6, rfl, _, hg6, hc6⟩
    obtain ⟨_, _, _, _, zs, hzp, hzf, _, hA6⟩ := hg6
    have hze : zs = xs.take n.toNat := by rw [← hzf]; exact (List.filter_eq_self.2 (fun _ _ => rfl)).symm
    refine ⟨v6, rfl, ?_, hc6.mono fun j _ h => h.elim (fun h => h.elim) id⟩
    rw [← take_len, ← hze]
    exact hA6
set_option maxRecDepth 100000 in
set_option maxHeartbeats 1000000 in
theorem seqEarly_any (a : Option Addr) (cap : Nat) (xs : List Pr) (n : Int) (hn : -9223372036854775808 ≤ n ∧ n ≤ 9223372036854775807) (w : World) (hr : Rd w a xs) :
    Calls Try.prog 7 #[.slice a xs.length cap, .int .i64 n] w fun e w' => e = .returned (.bool true) ∧ Ch (fun _ => False) w w' := by
  have HN := Lib.hid hn
  clear hn
  have HR := Lib.hid hr
  clear hr
  by_cases hl : xs.length ≤ 300
  · have hi : (xs.length : Int) ≤ 300 := by omega
    go_enter Try.func7, Try.ntmps7
    go_wp2_with fail
    refine (awake_any w).mono ?_
    rintro e w1 ⟨rfl, hc1⟩
    go_wp2_with fail
    have hcA : Ch (fun _ => False) w (w1.alloc (.cells #[.int .i64 0] 3)) := hc1.tr (Ch.alloc _ w1 _)
    have hbA : AskG w1.heap.size [] (w1.alloc (.cells #[.int .i64 0] 3)) := Boxed.new w1 3 _
    have hzA : w1.heap.size < (w1.alloc (.cells #[.int .i64 0] 3)).heap.size := by simp
    generalize w1.alloc (.cells #[.int .i64 0] 3) = wA at hcA hbA hzA ⊢
    generalize hbe : w1.heap.size = bA at hbA hzA ⊢
    have hw1 := hc1.size
    rw [hbe] at hw1
    clear hc1 hbe
    refine (pairs_any a cap xs (by omega) wA (HR.out.keep hcA (fun _ _ => id))).mono ?_
    rintro e w2 ⟨v2, rfl, ho2, hc2⟩
    go_wp2_with fail
    refine (of_any _ v2 xs (by omega) w2 ho2).mono ?_
    rintro e w3 ⟨b3, v3, rfl, hb3, hg3, hc3⟩
    unfold ofRun
    go_wp2_with fail
    refine (only_any _ _ _ _ _ _ _ _ rfl rfl w3).mono ?_
    rintro e w4 ⟨rfl, hk4, hs4, hc4, hz4⟩
    have HZ4 := Lib.hid hz4
    clear hz4
    unfold onlyRun
    go_wp2_with fail
    refine (head_any _ _ _ _ rfl n w4).mono ?_
    rintro e w5 ⟨rfl, hn5, hs5, hc5, hz5⟩
    have HZ5 := Lib.hid hz5
    clear hz5
    unfold headRun
    go_wp2_with fail
    have hz4 := HZ4.out
    have hz5 := HZ5.out
    have z2 := hc2.size
    have z3 := hc3.size
    have hA5 : AskG bA [] w5 := askG_stab bA [] _ _ hbA ((((hc2.tr hc3).tr hc4).tr hc5).mono fun j _ h => h.elim)
    have hG5 : OfG b3 w2.heap.size v3 xs w5 := ofG_stab _ _ _ _ _ _ hg3 ((hc4.tr hc5).mono fun j _ h => h.elim)
    have hAK : ¬ OfK b3 v3 bA := by
      rintro (h | h)
      · omega
      · have := (hg3.2.own _ h).1; omega
    refine (early_run b3 w2.heap.size v3 xs hl n HN.out bA (w3.heap.size + 1) w3.heap.size (w4.heap.size + 1) w4.heap.size w5 hG5 hA5 (hc5.boxed hk4 id) (hc5.boxed hs4 id) hn5 hs5 hAK (by omega) (by omega) (by omega) (by omega)).mono ?_
    rintro e w6 ⟨v6, rfl, hA6, hc6⟩
    have hcW : Ch (fun _ => False) w w6 := ((((hcA.tr hc2).tr hc3).tr hc4).tr hc5).trans hc6 (fun j hj h => by omega)
    have hcell := hA6.cell
    clear hA6 hc6 hA5 hG5 hn5 hs5 hk4 hs4 hg3 hc2 hc3 hc4 hc5 ho2 hcA hbA hAK z2 z3 hb3 hz4 hz5
    go_wp2
    all_goals
      go_ret
      refine ⟨congrArg (fun b => Ending.returned (Value.bool b)) (a₂ := true) ?_, hcW⟩
      simp only [beq_iff_eq]
      omega
  · have hi : 300 < (xs.length : Int) := by omega
    go_enter Try.func7, Try.ntmps7
    go_wp2_with fail
    refine (awake_any w).mono ?_
    rintro e w1 ⟨rfl, hc1⟩
    go_wp2_with fail
    go_ret
    exact ⟨rfl, hc1⟩
end Go.Proofs.Ytlgamaldngkdnaa
