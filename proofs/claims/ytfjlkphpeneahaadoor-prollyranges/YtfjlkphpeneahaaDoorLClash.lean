/- The walk of the law's clash. -/
import Derived.Test.YtfjlkphpeneahaaDoorM9
import Derived.Test.YtfjlkphpeneahaaDoorRPrint
namespace Go.Proofs.YtfjlkphpeneahaaDoor
open Go Go.RowKit Go.Maps
open D4 (put Asc)

/-- Texts by texts, in a map of the law's own. -/
def svS (t : Bs) : Value := .string (txt t)
def rdS : Value → Option (DataW Nat × List MemPlace)
  | .string s => some (.lit (.string s.data.toList), [])
  | _ => none
theorem rdS_sv (t : Bs) : rdS (svS t) = some (.lit (.string t), []) := rfl
theorem rdS_inv {v : Value} {t : Bs} {ps : List MemPlace} (h : rdS v = some (.lit (.string t), ps)) : v = svS t := by
  unfold rdS at h
  split at h
  · rename_i s
    simp only [Option.some.injEq, Prod.mk.injEq, DataW.lit.injEq, Lit.string.injEq] at h
    unfold svS
    rw [← h.1, txt_data]
  · cases h
def svo : Option Bs → Value
  | none => svS []
  | some t => svS t
theorem zeroS (w : World) : (zeroValue 9).run Tryd.prog w = .ok (svS []) w := Tryd.zeroValue9 w
theorem ownsS_tight {w : World} {b n : Nat} {D : DataW Nat} (h : w.ownsMap Tryd.prog 9 rdS b n D) : w.ownsMap Tryd.prog 9 rdS b (Maps.size D) D := by
  obtain ⟨es, clock, hb, F, hs, rfl⟩ := h
  exact ⟨es, clock, hb, F, by rw [Maps.size_eq, length_read]; exact Nat.le_refl _, rfl⟩
/-- The law's map has these. -/
structure Seen (w : World) (b : Nat) (l : Tx) : Prop where
  asc : Asc l
  map : w.ownsMap Tryd.prog 9 rdS b l.length (datT l)
theorem Seen.new {w w' : World} {b : Nat} {l : Tx} (h : Seen w b l) (hb : Below w.heap.size w w') : Seen w' b l := by
  refine ⟨h.asc, ?_⟩
  have hlt := h.map.lt
  obtain ⟨es, clock, hbk, F, hs', hD⟩ := h.map
  exact ⟨es, clock, (hb.block b hlt).trans hbk, F, hs', hD⟩
theorem Seen.look {w : World} {b : Nat} {l : Tx} (h : Seen w b l) (n : ByteArray) (hn : n.size ≤ 1000000000) :
    (Instr.lookup 81 (.map (some b)) (.string n) true).run Tryd.prog w = .ok (.tuple #[svo (D4.look n.data.toList l), .bool (D4.look n.data.toList l).isSome]) w := by
  obtain ⟨v, ps, hr, hv⟩ := h.map.look_ok (string_keyed Tryd.underlying9) Tryd.underlying81 (zeroS w) (rdS_sv []) (D4.keyS n hn)
  rw [hr, datT_has]
  rw [datT_at] at hv
  cases hl : D4.look n.data.toList l with
  | none => rw [hl] at hv; rw [rdS_inv hv]; rfl
  | some f => rw [hl] at hv; rw [rdS_inv hv]; rfl
theorem Seen.update {w : World} {b : Nat} {l : Tx} (h : Seen w b l) (n : ByteArray) (hn : n.size ≤ 1000000000) (t : Bs) (hl : l.length ≤ 1000000000) :
    ∃ w2, (Instr.mapUpdate 81 (.map (some b)) (.string n) (svS t)).run Tryd.prog w = .ok () w2 ∧ Seen w2 b (put n.data.toList t l) ∧ Ch (fun k => k = b) w w2 := by
  obtain ⟨w2, hr, ho, hgr⟩ := h.map.update (string_keyed Tryd.underlying9) Tryd.underlying81 (by unfold maxLen; omega) (D4.keyS n hn) (rdS_sv t)
  refine ⟨w2, hr, ⟨D4.put_asc h.asc, ?_⟩, Ch.of_grown hgr fun k hk => by cases hk; rfl⟩
  rw [datT_put h.asc] at ho
  have := ownsS_tight ho
  rwa [datT_size] at this
theorem Seen.made (w : World) : Seen (w.alloc (.map #[] 0)) w.heap.size [] := ⟨List.Pairwise.nil, World.ownsMap_made w Tryd.prog 9 rdS⟩
/-- The texts looked at so far, without a clash. -/
theorem clash_look {xs : List Bs} (h : ¬ ClashL xs) (p : Bs) : D4.look p (putAll [] xs) = getL xs p := at_getL h p
theorem clash_snoc {K : List Bs} {t : Bs} (h : ¬ ClashL K) (ht : ∀ s ∈ K, sha s = sha t → s = t) : ¬ ClashL (K ++ [t]) := by
  rintro ⟨s, hs, u, hu, e, hn⟩
  rcases List.mem_append.1 hs with hs | hs <;> rcases List.mem_append.1 hu with hu | hu
  · exact h ⟨s, hs, u, hu, e, hn⟩
  · rw [List.mem_singleton.1 hu] at e hn; exact hn (ht s hs e)
  · rw [List.mem_singleton.1 hs] at e hn; exact hn (ht u hu e.symm).symm
  · rw [List.mem_singleton.1 hs, List.mem_singleton.1 hu] at hn; exact hn rfl
theorem getL_none {K : List Bs} {t : Bs} (h : getL K (sha t) = none) : ∀ s ∈ K, sha s = sha t → s = t := fun s hs e => by
  have := List.find?_eq_none.1 h s hs
  exact absurd (decide_eq_true e) this
theorem getL_some {K : List Bs} {t u : Bs} (h : getL K (sha t) = some u) : u ∈ K ∧ sha u = sha t := ⟨List.mem_of_find?_eq_some h, by have := List.find?_some h; exact of_decide_eq_true this⟩
/-- The step of the walk: what the map has, and what comes of it. -/
theorem clash_step {xs : List Bs} {i : Nat} (hi : i < xs.length) (h : ¬ ClashL (xs.take i)) :
    (D4.look (sha (xs.getD i [])) (putAll [] (xs.take i)) = none ∧ ¬ ClashL (xs.take (i + 1))) ∨ (∃ u, D4.look (sha (xs.getD i [])) (putAll [] (xs.take i)) = some u ∧ ((u = xs.getD i [] ∧ ¬ ClashL (xs.take (i + 1))) ∨ (u ≠ xs.getD i [] ∧ ClashL xs))) := by
  have hl := clash_look h (sha (xs.getD i []))
  rw [take_at hi]
  have hmem : xs.getD i [] ∈ xs := by rw [getD_at hi]; exact List.getElem_mem hi
  generalize xs.getD i [] = t at *
  cases hg : getL (xs.take i) (sha t) with
  | none => rw [hg] at hl; exact .inl ⟨hl, clash_snoc h (getL_none hg)⟩
  | some u =>
    rw [hg] at hl
    have hu := getL_some hg
    refine .inr ⟨u, hl, ?_⟩
    by_cases e : u = t
    · refine .inl ⟨e, clash_snoc h fun s hs es => ?_⟩
      by_cases e2 : s = t
      · exact e2
      · exact absurd ⟨s, hs, u, hu.1, es.trans hu.2.symm, fun e3 => e2 (e3.trans e)⟩ h
    · exact .inr ⟨e, u, List.mem_of_mem_take hu.1, t, hmem, hu.2, e⟩
theorem look_texts {wr : World} {b : Nat} {l : Tx} (hS : Seen wr b l) (p t : Bs) (hp : p.length ≤ 1000) (hl : l.length ≤ 1000000) : (Instr.lookup 81 (.map (some b)) (.string (txt p)) true).run Tryd.prog wr = .ok (.tuple #[svo (D4.look p l), .bool (D4.look p l).isSome]) wr ∧ ∃ V2, (Instr.mapUpdate 81 (.map (some b)) (.string (txt p)) (.string (txt t))).run Tryd.prog wr = .ok () V2 ∧ Seen V2 b (put p t l) ∧ Ch (fun k => k = b) wr V2 := by
  have h1 := hS.look (txt p) (by rw [txt_size]; omega)
  rw [data_txt] at h1
  obtain ⟨V2, h2, h3, h4⟩ := hS.update (txt p) (by rw [txt_size]; omega) t (by omega)
  rw [data_txt] at h3
  exact ⟨h1, V2, h2, h3, h4⟩
set_option maxRecDepth 100000 in
set_option maxHeartbeats 4000000 in
theorem clash_any {w : World} {a : Option Addr} {c : Nat} {xs : List Bs} (hR : RdT w a xs) (hl : xs.length ≤ 1000000) (hx : ∀ x ∈ xs, x.length ≤ 100000) :
    Calls Tryd.prog 17 #[.slice a xs.length c] w fun e w' => ∃ q : Bool, e = .returned (.bool q) ∧ (q = true ↔ ClashL xs) ∧ Below w.heap.size w w' := by
  have hl' : (xs.length : Int) ≤ 1000000 := by omega
  have HR := Lib.hid (And.intro hR hx)
  have hmm := @run_makeMap Tryd.prog
  have H0 := Lib.hid (Seen.made w)
  clear hR hx
  go_enter Tryd.func17, Tryd.ntmps17
  go_wp2
  go_loopw [5, 6, 7, 8, 12] (fun _ _ _ _ i wr => ∃ ii : Nat, i = .int .i64 (ii : Int) ∧ ii ≤ xs.length ∧ Hid (¬ ClashL (xs.take ii) ∧ Seen wr w.heap.size (putAll [] (xs.take ii)) ∧ Below w.heap.size w wr)) (fun _ _ _ _ i _ => xs.length - (intOf i).toNat)
  case atStart => exact ⟨0, rfl, Nat.zero_le _, Lib.hid ⟨fun ⟨t, ht, _⟩ => by simp at ht, H0.out, (Below.refl _ _).alloc (Nat.le_refl _) _⟩⟩
  case round =>
    obtain ⟨ii, rfl, hi, HI⟩ := hrel
    by_cases hlt : ii < xs.length
    · have hlt' : (ii : Int) < (xs.length : Int) := by omega
      have hi0 : (0 : Int) ≤ (ii : Int) := by omega
      obtain ⟨b, off, rfl, k1⟩ := (HR.out.1.new HI.out.2.2) ii hlt
      have hmem : xs.getD ii [] ∈ xs := by rw [getD_at hlt]; exact List.getElem_mem hlt
      have hxl := HR.out.2 _ hmem
      have HSTEP := Lib.hid (clash_step hlt HI.out.1)
      have HPUT := Lib.hid (putAll_take hlt [])
      have hml : (putAll [] (xs.take ii)).length ≤ 1000000 := by have := putAll_len (xs.take ii) []; rw [List.length_take] at this; simp at this; omega
      obtain ⟨t, ht⟩ : ∃ t, xs.getD ii [] = t := ⟨_, rfl⟩
      rw [ht] at k1 hxl HSTEP HPUT
      clear hmem ht
      have P33 := Lib.hid (S1.rprint_any (txt t) (by rw [txt_size]; omega))
      rw [data_txt] at P33
      have P : Hid (Calls Tryd.prog 33 #[.string (txt t)] wr fun e w3 => e = .returned (.string (txt (sha t))) ∧ ((Instr.lookup 81 (.map (some w.heap.size)) (.string (txt (sha t))) true).run Tryd.prog w3 = .ok (.tuple #[svo (D4.look (sha t) (putAll [] (xs.take ii))), .bool (D4.look (sha t) (putAll [] (xs.take ii))).isSome]) w3 ∧ ∃ V2, (Instr.mapUpdate 81 (.map (some w.heap.size)) (.string (txt (sha t))) (.string (txt t))).run Tryd.prog w3 = .ok () V2 ∧ Seen V2 w.heap.size (put (sha t) t (putAll [] (xs.take ii))) ∧ Ch (fun k => k = w.heap.size) w3 V2) ∧ Below wr.heap.size wr w3) := Lib.hid ((P33.out wr).mono (by
        rintro e w3 ⟨he, hb⟩
        exact ⟨he, look_texts (HI.out.2.1.new hb) (sha t) t (by rw [sha_len]; omega) hml, hb⟩))
      rw [← HPUT.out] at P
      clear P33 hml HPUT
      rcases HSTEP.out with ⟨hg, hnc⟩ | ⟨u, hg, ⟨rfl, hnc⟩ | ⟨hne, hcl⟩⟩
      · rw [hg] at P
        have HNC := Lib.hid hnc
        clear hnc hg HSTEP hxl
        have PP : Hid (Calls Tryd.prog 33 #[.string (txt t)] wr fun e w3 => e = .returned (.string (txt (sha t))) ∧ ((Instr.lookup 81 (.map (some w.heap.size)) (.string (txt (sha t))) true).run Tryd.prog w3 = .ok (.tuple #[.string (txt []), .bool false]) w3 ∧ ∃ V2, (Instr.mapUpdate 81 (.map (some w.heap.size)) (.string (txt (sha t))) (.string (txt t))).run Tryd.prog w3 = .ok () V2 ∧ Seen V2 w.heap.size (putAll [] (xs.take (ii + 1))) ∧ Ch (fun k => k = w.heap.size) w3 V2) ∧ Below wr.heap.size wr w3) := P
        clear P
        generalize txt (sha t) = ts at *
        generalize txt [] = te at *
        generalize txt t = tt at *
        go_wp2_with (go_at_call 33; (with_reducible refine PP.out.mono ?_); rintro e w3 ⟨rfl, ⟨hlook, V2, hup, hS2, hc2⟩, hb3⟩)
        go_roundw
        case rel =>
          refine ⟨ii + 1, by go_num, by omega, Lib.hid ⟨HNC.out, hS2, ?_⟩⟩
          have hB3 := HI.out.2.2.trans (hb3.mono HI.out.2.2.size)
          exact hB3.trans (hc2.below hB3.size fun k hk e => by omega)
        case measure => simp [intOf]; omega
      · rw [hg] at P
        have HNC := Lib.hid hnc
        clear hnc hg HSTEP hxl
        have PP : Hid (Calls Tryd.prog 33 #[.string (txt u)] wr fun e w3 => e = .returned (.string (txt (sha u))) ∧ ((Instr.lookup 81 (.map (some w.heap.size)) (.string (txt (sha u))) true).run Tryd.prog w3 = .ok (.tuple #[.string (txt u), .bool true]) w3 ∧ ∃ V2, (Instr.mapUpdate 81 (.map (some w.heap.size)) (.string (txt (sha u))) (.string (txt u))).run Tryd.prog w3 = .ok () V2 ∧ Seen V2 w.heap.size (putAll [] (xs.take (ii + 1))) ∧ Ch (fun k => k = w.heap.size) w3 V2) ∧ Below wr.heap.size wr w3) := P
        clear P
        generalize txt (sha u) = ts at *
        generalize txt u = tt at *
        go_wp2_with (go_at_call 33; (with_reducible refine PP.out.mono ?_); rintro e w3 ⟨rfl, ⟨hlook, V2, hup, hS2, hc2⟩, hb3⟩)
        go_roundw
        case rel =>
          refine ⟨ii + 1, by go_num, by omega, Lib.hid ⟨HNC.out, hS2, ?_⟩⟩
          have hB3 := HI.out.2.2.trans (hb3.mono HI.out.2.2.size)
          exact hB3.trans (hc2.below hB3.size fun k hk e => by omega)
        case measure => simp [intOf]; omega
      · rw [hg] at P
        have hn1 : ((txt u).toList == (txt t).toList) = false := by rw [txt_eq]; exact decide_eq_false hne
        have hn2 : ¬ txt u = txt t := fun e => hne (txt_inj e)
        have HCL := Lib.hid hcl
        clear hcl hg HSTEP hxl hne
        have PP : Hid (Calls Tryd.prog 33 #[.string (txt t)] wr fun e w3 => e = .returned (.string (txt (sha t))) ∧ ((Instr.lookup 81 (.map (some w.heap.size)) (.string (txt (sha t))) true).run Tryd.prog w3 = .ok (.tuple #[.string (txt u), .bool true]) w3 ∧ ∃ V2, (Instr.mapUpdate 81 (.map (some w.heap.size)) (.string (txt (sha t))) (.string (txt t))).run Tryd.prog w3 = .ok () V2 ∧ Seen V2 w.heap.size (putAll [] (xs.take (ii + 1))) ∧ Ch (fun k => k = w.heap.size) w3 V2) ∧ Below wr.heap.size wr w3) := P
        clear P
        generalize txt (sha t) = ts at *
        generalize txt u = tu at *
        generalize txt t = tt at *
        go_wp2_with (go_at_call 33; (with_reducible refine PP.out.mono ?_); rintro e w3 ⟨rfl, ⟨hlook, -⟩, hb3⟩)
        go_ret
        exact ⟨true, rfl, ⟨fun _ => HCL.out, fun _ => rfl⟩, HI.out.2.2.trans (hb3.mono HI.out.2.2.size)⟩
    · have hlt' : (xs.length : Int) ≤ (ii : Int) := by omega
      have hnc := HI.out.1
      rw [List.take_of_length_le (by omega)] at hnc
      have HNC := Lib.hid hnc
      clear hnc
      go_wp2
      go_ret
      exact ⟨false, rfl, ⟨(fun h => by cases h), fun h => absurd h HNC.out⟩, HI.out.2.2⟩
end Go.Proofs.YtfjlkphpeneahaaDoor
