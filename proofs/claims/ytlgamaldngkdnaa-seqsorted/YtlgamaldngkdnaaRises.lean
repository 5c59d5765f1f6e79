/- Walk of Rises. -/
import Derived.Test.YtlgamaldngkdnaaOf
import Derived.Test.YtlgamaldngkdnaaTexts
namespace Go.Proofs.Ytlgamaldngkdnaa
open Go Go.RowKit Go.Shelf
attribute [local go_sem] Oper.semAt_some

theorem prefix_get {pre xs : List Pr} {x : Pr} (h : pre ++ [x] <+: xs) : x = (ky xs pre.length, vl xs pre.length) := by
  obtain ⟨r, rfl⟩ := h
  unfold ky vl
  simp [List.getD_eq_getElem?_getD]
def lastK (xs : List Pr) (n : Nat) : ByteArray := if n = 0 then ByteArray.empty else ky xs (n - 1)

set_option maxRecDepth 100000 in
set_option maxHeartbeats 1000000 in
theorem rises_any {gf : Nat} {lb : Array Value} (eg : ∀ args w, (callFunc gf args).run Try.prog w = .ok (.enter gf args) w) {K T : Nat → Prop} {xs : List Pr} {Gs : World → Prop} {G : List Pr → World → Prop} (hit : Iter Try.prog gf lb enc2 K T xs Gs G) (w : World)
    (hK : ∀ k, K k → k < w.heap.size) (hT : ∀ k, T k → k < w.heap.size) (hGs : ∀ pre, Stab (fun k => ¬ K k) (G pre)) (hGss : Stab (fun k => ¬ K k) Gs) (hG : Gs w) :
    Calls Try.prog 20 #[.func (.func gf) #[] lb] w fun e w' => e = .returned (.bool (riseN xs xs.length)) ∧ Ch T w w' := by
  refine (callsIn_wide (n := 3)).1 ?_
  refine callsIn_of_wp_marks Try.func20 rfl trivial ?_ rfl
  simp only [Try.ntmps20, List.size_toArray, List.length_cons, List.length_nil, Nat.reduceAdd, Nat.reduceSub, Array.replicate_succ, Array.replicate_zero, List.push_toArray, List.append_toArray, List.nil_append, List.cons_append]
  gi_wp2_with (refine ⟨trivial, ?_⟩; gi_at_call 34; refine (callsIn_wide.2 (orEmpty_any (.func gf) #[] lb _)).mono ?_; rintro e w' ⟨rfl, rfl⟩)
  obtain ⟨w3, hw3⟩ : ∃ w3, ((w.alloc (.cells #[.bool false] 4)).alloc (.cells #[.string ⟨#[]⟩] 9)).alloc (.cells #[.bool true] 4) = w3 := ⟨_, rfl⟩
  have hca : ∀ S : Nat → Prop, Ch S w w3 := fun S => by rw [← hw3]; exact ((Ch.alloc S w _).tr (Ch.alloc S _ _)).tr (Ch.alloc S _ _)
  have hz : w3.heap.size = w.heap.size + 3 := by rw [← hw3]; simp
  have hr0 : Boxed w3 w.heap.size 4 (.bool false) := by rw [← hw3]; exact ((Boxed.new w 4 _).alloc _).alloc _
  have hl0 : Boxed w3 (w.heap.size + 1) 9 (.string ByteArray.empty) := by
    rw [← hw3]
    have := Boxed.new (w.alloc (.cells #[.bool false] 4)) 9 (.string ⟨#[]⟩)
    rw [World.size_alloc] at this
    exact this.alloc _
  have hf0 : Boxed w3 (w.heap.size + 1 + 1) 4 (.bool true) := by
    rw [← hw3]
    have := Boxed.new ((w.alloc (.cells #[.bool false] 4)).alloc (.cells #[.string ⟨#[]⟩] 9)) 4 (.bool true)
    rw [World.size_alloc, World.size_alloc] at this
    exact this
  rw [hw3]
  clear hw3
  refine wpIn_range (K := K) (T := T) (xs := xs) (Gs := Gs) (G := G) (gf := gf) (lb := lb) rfl eg hit (fun _ => rfl) (fun k hk => by have := hK k hk; omega) (fun k hk => by have := hT k hk; omega) hGs hGss (hGss _ _ hG (hca _))
    (fun M pre V => riseN xs pre.length = true ∧ Boxed V w.heap.size 4 (.bool false) ∧ Boxed V (w.heap.size + 1) 9 (.string (lastK xs pre.length)) ∧ Boxed V (w.heap.size + 1 + 1) 4 (.bool (pre.length == 0)) ∧ Ch (fun k => T k ∨ w.heap.size ≤ k) w V)
    (fun c M pre V => c = .ret ∧ riseN xs xs.length = false ∧ Boxed V w.heap.size 4 (.bool false) ∧ Ch (fun k => T k ∨ w.heap.size ≤ k) w V) ?hI ?hIx ?h0
    (fun x => { tmps := #[.func (.func gf) #[] lb, undef, .pointer (some ⟨w.heap.size, 0, none⟩), .pointer (some ⟨w.heap.size + 1, 0, none⟩), .pointer (some ⟨w.heap.size + 1 + 1, 0, none⟩), .string x.1, .func (.func gf) #[] lb, .func (.func gf) #[] lb, .string x.1, .int .i64 x.2, undef, undef, undef, undef, undef, undef, undef, undef, undef], defers := [] }) ?assign ?body ?done ?stop
  case hI =>
    rintro M pre hM A B ⟨h1, b1, b2, b3, hc⟩ hch
    have hn : ∀ k, w.heap.size ≤ k → k < w.heap.size + 3 → ¬ (T k ∨ (w3.heap.size ≤ k ∧ k < M)) := by
      rintro k h1 h2 (h | ⟨h, _⟩)
      · have := hT _ h; omega
      · omega
    exact ⟨h1, hch.boxed b1 (hn _ (by omega) (by omega)), hch.boxed b2 (hn _ (by omega) (by omega)), hch.boxed b3 (hn _ (by omega) (by omega)), hc.trans hch (fun j hj h => h.imp id fun h => by omega)⟩
  case hIx =>
    rintro c M pre hM A B ⟨hc0, h1, b1, hc⟩ hch
    have hn : ∀ k, w.heap.size ≤ k → k < w.heap.size + 3 → ¬ (T k ∨ (w3.heap.size ≤ k ∧ k < M)) := by
      rintro k h1 h2 (h | ⟨h, _⟩)
      · have := hT _ h; omega
      · omega
    exact ⟨hc0, h1, hch.boxed b1 (hn _ (by omega) (by omega)), hc.trans hch (fun j hj h => h.imp id fun h => by omega)⟩
  case h0 =>
    intro W' hc
    have hn : ∀ k, w.heap.size ≤ k → ¬ T k := fun k h h' => by have := hT _ h'; omega
    exact ⟨rfl, hc.boxed hr0 (hn _ (by omega)), hc.boxed hl0 (hn _ (by omega)), hc.boxed hf0 (hn _ (by omega)), (hca _).trans hc (fun j hj h => .inl h)⟩
  case assign =>
    intro m l x W Kk hK
    simp only [enc2]
    gi_wp2
    exact hK
  case body =>
    rintro m l' M pre x V hM1 hM2 ⟨h1, b1, b2, b3, hc⟩ hpre
    have hpl : pre.length + 1 ≤ xs.length := by have := hpre.length_le; simpa using this
    have hx := prefix_get hpre
    obtain ⟨kk, vv⟩ := x
    obtain ⟨rfl, rfl⟩ : kk = ky xs pre.length ∧ vv = vl xs pre.length := by injection hx with h1 h2; exact ⟨h1, h2⟩
    clear hx hpre
    have hS : ∀ (B : Nat) (u : Value) (V : World), w.heap.size ≤ B → B < w.heap.size + 3 → Ch (fun k => w.heap.size ≤ k ∧ k < w.heap.size + 3) V (V.setCell ⟨B, 0, none⟩ u) := fun B u V h1 h2 => Ch.setCell _ _ _ fun _ => ⟨h1, h2⟩
    have hmo : ∀ {V V' : World}, Ch (fun k => w.heap.size ≤ k ∧ k < w.heap.size + 3) V V' → Ch (fun k => ¬ K k ∧ ¬ (w3.heap.size ≤ k ∧ k < M)) V V' := fun h => h.mono fun j _ h => ⟨fun hk => by have := hK _ hk; omega, fun hk => by omega⟩
    have hcw : ∀ {V' : World}, Ch (fun k => w.heap.size ≤ k ∧ k < w.heap.size + 3) V V' → Ch (fun k => T k ∨ w.heap.size ≤ k) w V' := fun h => hc.trans h (fun j _ h => .inr h.1)
    have HH := Lib.hid (And.intro @hmo @hcw)
    have HS := Lib.hid hS
    clear hmo hcw hS
    have c1 := b1.cell
    have c2 := b2.cell
    have c3 := b3.cell
    have f1 := b1.frozen
    have f2 := b2.frozen
    have f3 := b3.frozen
    have hl1 : (pre ++ [(ky xs pre.length, vl xs pre.length)]).length = pre.length + 1 := by simp
    -- behind the two stores
    have hend : riseN xs (pre.length + 1) = true → Ch (fun k => ¬ K k ∧ ¬ (w3.heap.size ≤ k ∧ k < M)) V ((V.setCell ⟨w.heap.size + 1, 0, none⟩ (.string (ky xs pre.length))).setCell ⟨w.heap.size + 1 + 1, 0, none⟩ (.bool false)) ∧
        riseN xs (pre ++ [(ky xs pre.length, vl xs pre.length)]).length = true ∧
        Boxed ((V.setCell ⟨w.heap.size + 1, 0, none⟩ (.string (ky xs pre.length))).setCell ⟨w.heap.size + 1 + 1, 0, none⟩ (.bool false)) w.heap.size 4 (.bool false) ∧
        Boxed ((V.setCell ⟨w.heap.size + 1, 0, none⟩ (.string (ky xs pre.length))).setCell ⟨w.heap.size + 1 + 1, 0, none⟩ (.bool false)) (w.heap.size + 1) 9 (.string (lastK xs (pre ++ [(ky xs pre.length, vl xs pre.length)]).length)) ∧
        Boxed ((V.setCell ⟨w.heap.size + 1, 0, none⟩ (.string (ky xs pre.length))).setCell ⟨w.heap.size + 1 + 1, 0, none⟩ (.bool false)) (w.heap.size + 1 + 1) 4 (.bool ((pre ++ [(ky xs pre.length, vl xs pre.length)]).length == 0)) ∧
        Ch (fun k => T k ∨ w.heap.size ≤ k) w ((V.setCell ⟨w.heap.size + 1, 0, none⟩ (.string (ky xs pre.length))).setCell ⟨w.heap.size + 1 + 1, 0, none⟩ (.bool false)) := fun hri => by
      have hcc := (HS.out (w.heap.size + 1) (.string (ky xs pre.length)) V (by omega) (by omega)).tr (HS.out (w.heap.size + 1 + 1) (.bool false) _ (by omega) (by omega))
      refine ⟨HH.out.1 hcc, by rw [hl1]; exact hri, ?_, ?_, ?_, HH.out.2 hcc⟩
      · exact (b1.other (by omega) _).other (by omega) _
      · rw [hl1, show lastK xs (pre.length + 1) = ky xs pre.length by unfold lastK; rw [if_neg (by omega)]; rfl]
        exact (Boxed.set _ b2).other (by omega) _
      · rw [hl1, show (pre.length + 1 == 0) = false by simp]
        exact Boxed.set _ (b3.other (by omega) _)
    have HE := Lib.hid hend
    clear hend
    have f3' := (b3.other (B' := w.heap.size + 1) (by omega) (.string (ky xs pre.length))).frozen
    have c3' := (b3.other (B' := w.heap.size + 1) (by omega) (.string (ky xs pre.length))).cell
    have HB := Lib.hid (And.intro b1 (And.intro b2 (And.intro b3 hc)))
    have HL1 := Lib.hid hl1
    have H1 := Lib.hid h1
    clear b1 b2 b3 hc hl1 h1
    by_cases hp0 : pre.length = 0
    · have ht : (pre.length == 0) = true := by simpa using hp0
      rw [ht] at c3 c3'
      have HR : Hid (riseN xs (pre.length + 1) = true) := Lib.hid (by rw [hp0]; rfl)
      clear hp0 ht
      generalize ky xs pre.length = k1 at HE f3' c3' ⊢
      generalize vl xs pre.length = v1 at HE ⊢
      gi_wp2
      refine ⟨trivial, ?_⟩
      gi_wp2
      exact HE.out HR.out
    · have ht : (pre.length == 0) = false := by simpa using hp0
      rw [ht] at c3 c3'
      have hlk : lastK xs pre.length = ky xs (pre.length - 1) := by unfold lastK; rw [if_neg hp0]
      rw [hlk] at c2
      have hrs := riseN_succ xs pre.length (by omega)
      have HRS := Lib.hid hrs
      clear hrs hlk ht
      generalize ky xs pre.length = k1 at HE f3' c3' HRS ⊢
      generalize vl xs pre.length = v1 at HE ⊢
      generalize ky xs (pre.length - 1) = k0 at c2 HRS
      gi_wp2
      refine ⟨trivial, (fun h => by cases h), ?_⟩
      refine (CallsIn.inRound l' (callsIn_wide.2 (less_str k0 k1 V))).mono ?_
      rintro e V2 ⟨rfl, rfl⟩
      cases hlt : lt k0 k1 with
      | true =>
        have HLT := Lib.hid hlt
        clear hlt
        gi_wp2
        exact HE.out (by rw [HRS.out, H1.out, HLT.out]; rfl)
      | false =>
        have HLT := Lib.hid hlt
        clear hlt
        gi_wp2
        have hcc := HS.out w.heap.size (.bool false) V2 (by omega) (by omega)
        refine ⟨HH.out.1 hcc, rfl, riseN_false xs (pre.length + 1) xs.length (by rw [HRS.out, HLT.out, Bool.and_false]) (by omega), Boxed.set _ HB.out.1, HH.out.2 hcc⟩
  case done =>
    rintro D M V hD hDM hMV ⟨h1, b1, b2, b3, hc⟩ hG3 hd
    have c1 := b1.cell
    have f1 := b1.frozen
    rw [hz] at hD
    gi_wp2
    have hcs : Ch (fun k => k = w.heap.size) V (V.setCell ⟨w.heap.size, 0, none⟩ (.bool true)) := Ch.setCell _ _ _ fun _ => rfl
    have hd' : (V.setCell ⟨w.heap.size, 0, none⟩ (.bool true)).heap[D]? = some (.deferred (some [])) := (hcs.block D (Array.getElem?_eq_some_iff.1 hd).1 (by omega)).trans hd
    refine ⟨by simp, .inl ⟨_, _, rfl, run_takeDeferred hd', ?_⟩⟩
    have hp := Ch.putObj (S := fun k => k = D) (V.setCell ⟨w.heap.size, 0, none⟩ (.bool true)) D (.deferred none) fun _ => rfl
    have hb5 := hp.boxed (Boxed.set (.bool true) b1) (by omega)
    have hc5 := hb5.cell
    refine ⟨.bool true, ?_, by rw [h1], ((hc.trans hcs (fun j _ h => .inr (by omega))).trans hp (fun j _ h => .inr (by omega))).mono fun j hj h => by
      rcases h with h | h
      · exact h
      · omega⟩
    simp [results, Try.f20, go_sem, hc5]
  case stop =>
    rintro D M c pre V hD hDM hMV hpre ⟨rfl, h1, b1, hc⟩ hG3 hd
    rw [hz] at hD
    gi_wp2
    refine ⟨by simp, .inl ⟨_, _, rfl, run_takeDeferred hd, ?_⟩⟩
    have hp := Ch.putObj (S := fun k => k = D) V D (.deferred none) fun _ => rfl
    have hb5 := hp.boxed b1 (by omega)
    have hc5 := hb5.cell
    refine ⟨.bool false, ?_, by rw [h1], (hc.trans hp (fun j _ h => .inr (by omega))).mono fun j hj h => by
      rcases h with h | h
      · exact h
      · omega⟩
    simp [results, Try.f20, go_sem, hc5]
end Go.Proofs.Ytlgamaldngkdnaa
