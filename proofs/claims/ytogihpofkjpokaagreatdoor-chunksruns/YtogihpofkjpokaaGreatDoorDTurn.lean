/- What turns a disk: a map made, a file more, a file turned, a file struck. -/
import Derived.Test.YtogihpofkjpokaaGreatDoorDStep
namespace Go.Proofs.YtogihpofkjpokaaGreatDoor.D4
open Go Go.RowKit Go.Maps

section
variable {α : Type}
theorem put_same {n : List UInt8} {a : α} : ∀ {l : List (List UInt8 × α)}, look n l = some a → Asc l → put n a l = l
  | [], h, _ => by cases h
  | p :: r, h, ha => by
    unfold put
    unfold look at h
    split at h
    · rename_i e
      cases h
      rw [if_pos e, ← e]
    · rename_i e
      rw [if_neg e, if_neg ?_, put_same h ha.tail]
      rw [before_asymm (ha.head _ (look_mem h))]; simp
theorem put_pairwise {R : List UInt8 × α → List UInt8 × α → Prop} (hs : ∀ x y, R x y → R y x) {n : List UInt8} {a : α} : ∀ {l : List (List UInt8 × α)}, Asc l → l.Pairwise R → (∀ q ∈ l, q.1 ≠ n → R (n, a) q) → (put n a l).Pairwise R
  | [], _, _, _ => by simp [put]
  | p :: r, ha, hp, h => by
    obtain ⟨h1, h2⟩ := List.pairwise_cons.1 hp
    unfold put
    split
    · rename_i e
      exact List.pairwise_cons.2 ⟨fun q hq => h q (List.mem_cons_of_mem _ hq) (by rw [← e]; exact (before_ne (ha.head q hq)).symm), h2⟩
    · rename_i e
      split
      · rename_i hb
        refine List.pairwise_cons.2 ⟨fun q hq => h q hq ?_, hp⟩
        rcases List.mem_cons.1 hq with rfl | hq
        · exact e
        · exact (before_ne (WideShapes.bytes_trans _ _ _ hb (ha.head q hq))).symm
      · refine List.pairwise_cons.2 ⟨fun q hq => ?_, put_pairwise hs ha.tail h2 fun q hq hn => h q (List.mem_cons_of_mem _ hq) hn⟩
        rcases mem_put hq with rfl | hq
        · exact hs _ _ (h p (by simp) e)
        · exact h1 q hq
theorem del_pairwise {R : List UInt8 × α → List UInt8 × α → Prop} {n : List UInt8} {l : List (List UInt8 × α)} (h : l.Pairwise R) : (del n l).Pairwise R := List.Pairwise.sublist List.filter_sublist h
theorem mem_put' {n : List UInt8} {a : α} {q : List UInt8 × α} : ∀ {l : List (List UInt8 × α)}, Asc l → q ∈ put n a l → q = (n, a) ∨ (q ∈ l ∧ q.1 ≠ n)
  | [], _, h => by simp [put] at h; exact .inl h
  | p :: r, ha, h => by
    unfold put at h
    split at h
    · rename_i e
      rcases List.mem_cons.1 h with h | h
      · exact .inl h
      · exact .inr ⟨List.mem_cons_of_mem _ h, by rw [← e]; exact (before_ne (ha.head q h)).symm⟩
    · rename_i e
      split at h
      · rename_i hb
        rcases List.mem_cons.1 h with h | h
        · exact .inl h
        · refine .inr ⟨h, ?_⟩
          rcases List.mem_cons.1 h with rfl | h
          · exact e
          · exact (before_ne (WideShapes.bytes_trans _ _ _ hb (ha.head q h))).symm
      · rcases List.mem_cons.1 h with rfl | h
        · exact .inr ⟨by simp, e⟩
        · rcases mem_put' ha.tail h with h | h
          · exact .inl h
          · exact .inr ⟨List.mem_cons_of_mem _ h.1, h.2⟩
end
theorem total_put_none {n : List UInt8} {f : F} : ∀ {l : List (List UInt8 × F)}, look n l = none → total (put n f l) = total l + f.data.length
  | [], _ => by simp [put, total]
  | p :: r, h => by
    unfold look at h
    split at h
    · cases h
    · rename_i e
      have ih := total_put_none (f := f) h
      unfold put
      rw [if_neg e]
      unfold total at ih ⊢
      split
      · simp only [List.map_cons, List.sum_cons]; omega
      · simp only [List.map_cons, List.sum_cons]; omega
theorem total_put_some {n : List UInt8} {f g : F} : ∀ {l : List (List UInt8 × F)}, Asc l → look n l = some g → total (put n f l) + g.data.length = total l + f.data.length
  | [], _, h => by cases h
  | p :: r, ha, h => by
    unfold look at h
    split at h
    · rename_i e
      cases h
      unfold put
      rw [if_pos e]
      unfold total
      simp only [List.map_cons, List.sum_cons]; omega
    · rename_i e
      have ih := total_put_some (f := f) ha.tail h
      unfold put
      rw [if_neg e, if_neg (by rw [before_asymm (ha.head _ (look_mem h))]; simp)]
      unfold total at ih ⊢
      simp only [List.map_cons, List.sum_cons]; omega
theorem total_del {n : List UInt8} {g : F} : ∀ {l : List (List UInt8 × F)}, Asc l → look n l = some g → total (del n l) + g.data.length = total l
  | [], _, h => by cases h
  | p :: r, ha, h => by
    unfold look at h
    unfold del
    split at h
    · rename_i e
      cases h
      rw [List.filter_cons_of_neg (by simp [e]), List.filter_eq_self.2 (fun q hq => by have := before_ne (ha.head q hq); simp; rw [← e]; exact this.symm)]
      unfold total
      simp only [List.map_cons, List.sum_cons]; omega
    · rename_i e
      have ih := total_del ha.tail h
      rw [List.filter_cons_of_pos (by simp [e])]
      unfold del at ih
      unfold total at ih ⊢
      simp only [List.map_cons, List.sum_cons]; omega
theorem total_mem {n : List UInt8} {f : F} : ∀ {l : List (List UInt8 × F)}, (n, f) ∈ l → f.data.length ≤ total l
  | p :: r, h => by
    unfold total
    simp only [List.map_cons, List.sum_cons]
    rcases List.mem_cons.1 h with e | h
    · subst e; simp only; omega
    · have := total_mem h
      unfold total at this
      omega
theorem Far.symm {p q : List UInt8 × F} (h : Far p q) : Far q p := ⟨h.1.symm, fun k hk hq => h.2 k hq hk⟩

def ptr : Option F → Value
  | none => .pointer none
  | some f => dp f.blk
theorem keyS (n : ByteArray) (h : n.size ≤ 1000000000) : keyOf Tryz.prog 9 (.string n) = some (.string n.data.toList) := _root_.Go.WideMaps.keyOf_string_mk Tryz.underlying9 (by unfold maxLen; omega)
section
variable {w w' : World} {d : Nat} {s : S}
theorem At.look (h : At w d s) (n : ByteArray) (hn : n.size ≤ 1000000000) :
    (Instr.lookup 60 (.map s.m) (.string n) true).run Tryz.prog w = .ok (.tuple #[ptr (look n.data.toList s.fs), .bool (look n.data.toList s.fs).isSome]) w := by
  cases hm : s.m with
  | none =>
    rw [Maps.look_nil true (string_keyed Tryz.underlying9) Tryz.underlying60 (Tryz.zeroValue80 w) (keyS n hn), h.nomap hm]
    rfl
  | some b =>
    obtain ⟨v, ps, hr, hv⟩ := (h.map b hm).look_ok (string_keyed Tryz.underlying9) Tryz.underlying60 (Tryz.zeroValue80 w) rdP_nil (keyS n hn)
    rw [hr, dat_has, look_on]
    rw [dat_at, look_on] at hv
    cases hl : YtogihpofkjpokaaGreatDoor.D4.look n.data.toList s.fs with
    | none => rw [hl] at hv; rw [rdP_inv0 hv]; rfl
    | some f => rw [hl] at hv; rw [rdP_inv hv]; rfl
theorem At.look1 (h : At w d s) (n : ByteArray) (hn : n.size ≤ 1000000000) :
    (Instr.lookup 60 (.map s.m) (.string n) false).run Tryz.prog w = .ok (ptr (YtogihpofkjpokaaGreatDoor.D4.look n.data.toList s.fs)) w := by
  cases hm : s.m with
  | none =>
    rw [Maps.look_nil false (string_keyed Tryz.underlying9) Tryz.underlying60 (Tryz.zeroValue80 w) (keyS n hn), h.nomap hm]
    rfl
  | some b =>
    obtain ⟨v, ps, hr, hv⟩ := (h.map b hm).lookup (string_keyed Tryz.underlying9) Tryz.underlying60 (Tryz.zeroValue80 w) rdP_nil (keyS n hn)
    rw [hr]
    rw [dat_at, look_on] at hv
    cases hl : YtogihpofkjpokaaGreatDoor.D4.look n.data.toList s.fs with
    | none => rw [hl] at hv; rw [rdP_inv0 hv]; rfl
    | some f => rw [hl] at hv; rw [rdP_inv hv]; rfl
/-- A map made for it. -/
theorem At.made (h : At w d s) (hm : s.m = none) : At ((w.alloc (.map #[] 0)).setCell ⟨d, 2, none⟩ (.map (some w.heap.size))) d { s with m := some w.heap.size } := by
  have hlt := lt_of_heap h.blk
  have hne : w.heap.size ≠ d := by omega
  have h1 := h.new ((Below.refl _ _).alloc (Nat.le_refl _) (.map #[] 0))
  have e := h.nomap hm
  refine ⟨h1.set 2 _, fun b hb => ?_, (fun e => by cases e), h.asc, h.names, (fun p hp => by rw [e] at hp; cases hp), h.far, h.used, h.most, h.room, h.fuel⟩
  cases hb
  show World.ownsMap _ _ _ _ _ s.fs.length (dat (on F.blk s.fs))
  rw [e]
  exact ownsMap_keep (World.ownsMap_made w Tryz.prog 9 rdP) (Ch.set1 _ d 2 _) hne
/-- A file more. -/
theorem At.more {w2 : World} {b g : Nat} {n : List UInt8} (h : At w d s) (hm : s.m = some b) (hn : YtogihpofkjpokaaGreatDoor.D4.look n s.fs = none) (hb : nameB n = true) (hg : w.heap[g]? = some (.cells #[.slice none 0 0, .int .i64 0] 112 (0, 0))) (hf : ¬ Foot d s g)
    (ho : w2.ownsMap Tryz.prog 9 rdP b (s.fs.length + 1) ((dat (on F.blk s.fs)).put (.string n) (.held g))) (hgr : w.grownBy w2 (some b)) : At w2 d { s with fs := put n ⟨g, .slice none 0 0, [], 0⟩ s.fs } := by
  have hc : Ch (fun k => k = b) w w2 := Ch.of_grown hgr fun k hk => by cases hk; rfl
  have hgb : g ≠ b := fun e => by
    obtain ⟨es, c, hm⟩ := ownsMap_obj (h.map b hm)
    rw [e, hm] at hg; cases hg
  refine ⟨(hc.block d (lt_of_heap h.blk) (fun e => h.map_ne hm e.symm)).trans h.blk, fun b' hb' => ?_, fun e => ?_, put_asc h.asc, fun p hp => ?_, fun p hp => ?_, put_pairwise (fun _ _ => Far.symm) h.asc h.far fun q hq _ => ?_, ?_, ?_, h.room, h.fuel⟩
  · have hb' : s.m = some b' := hb'
    rw [hm] at hb'
    cases hb'
    have := ownsMap_tight ho
    rw [dat_put (on_asc _ h.asc)] at this
    show World.ownsMap _ _ _ _ _ (put n (⟨g, .slice none 0 0, [], 0⟩ : F) s.fs).length (dat (on F.blk (put n (⟨g, .slice none 0 0, [], 0⟩ : F) s.fs)))
    rw [put_on]
    rw [dat_size] at this
    rw [← on_length F.blk, put_on]
    exact this
  · have e : s.m = none := e
    rw [hm] at e; cases e
  · rcases mem_put hp with rfl | hp
    · exact hb
    · exact h.names p hp
  · rcases mem_put hp with rfl | hp
    · exact ⟨(hc.block g (lt_of_heap hg) hgb).trans hg, OwB.nil _ _, by simp⟩
    · exact (h.file p hp).keep hc (h.map_file hm hp) fun k hk => h.map_data hm hp hk
  · exact ⟨fun e => hf (.inr (.inr ⟨q, hq, .inl e⟩)), fun k hk => by cases hk⟩
  · show s.used = (total (put n (⟨g, .slice none 0 0, [], 0⟩ : F) s.fs) : Int)
    rw [total_put_none hn]
    exact h.used
  · show total (put n (⟨g, .slice none 0 0, [], 0⟩ : F) s.fs) ≤ _
    rw [total_put_none hn]
    exact h.most
/-- A file turned. -/
theorem At.turn {n : List UInt8} {f f' : F} {u : Int} (h : At w d s) (hl : YtogihpofkjpokaaGreatDoor.D4.look n s.fs = some f) (hb : f'.blk = f.blk) (hF : File w' f') (hc : Ch (fun k => k = d ∨ k = f.blk ∨ f.v.ownBlock = some k) w w')
    (hd : w'.heap[d]? = some (.cells ({ s with used := u, fs := put n f' s.fs } : S).cells 62 (0, 0))) (ho : ∀ k, f'.v.ownBlock = some k → f.v.ownBlock = some k ∨ w.heap.size ≤ k)
    (hu : u + (f.data.length : Int) = s.used + (f'.data.length : Int)) (hM : u ≤ 1073741824) : At w' d { s with used := u, fs := put n f' s.fs } := by
  have hmem := look_mem hl
  have ht := total_put_some (f := f') h.asc hl
  have hus := h.used
  have hpair : ∀ q ∈ s.fs, q.1 ≠ n → Far (n, f) q := fun q hq hne => by
    have := h.far
    rcases List.pairwise_iff_getElem.1 this with hp
    obtain ⟨i, hi, ei⟩ := List.getElem_of_mem hmem
    obtain ⟨j, hj, ej⟩ := List.getElem_of_mem hq
    rcases Nat.lt_trichotomy i j with hij | hij | hij
    · have := hp i j hi hj hij; rwa [ei, ej] at this
    · subst hij; rw [ei] at ej; exact absurd (by rw [← ej]) hne
    · have := hp j i hj hi hij; rw [ei, ej] at this; exact this.symm
  refine ⟨hd, fun b hb' => ?_, fun e => ?_, put_asc h.asc, fun p hp => ?_, fun p hp => ?_, put_pairwise (fun _ _ => Far.symm) h.asc h.far fun q hq hne => ?_, ?_, ?_, h.room, h.fuel⟩
  · have hb' : s.m = some b := hb'
    have ha := h.map b hb'
    show World.ownsMap _ _ _ _ _ (put n f' s.fs).length (dat (on F.blk (put n f' s.fs)))
    rw [← on_length F.blk, put_on, hb, put_same (by rw [look_on, hl]; rfl) (on_asc _ h.asc), on_length]
    refine ownsMap_keep ha hc ?_
    rintro (e | e | e)
    · exact h.map_ne hb' e
    · exact h.map_file hb' hmem e.symm
    · exact h.map_data hb' hmem e rfl
  · have e : s.m = none := e
    rw [h.nomap e] at hl; cases hl
  · rcases mem_put hp with rfl | hp
    · exact h.names (n, f) hmem
    · exact h.names p hp
  · rcases mem_put' h.asc hp with rfl | ⟨hp, hne⟩
    · exact hF
    · have hfar := hpair p hp hne
      refine (h.file p hp).keep hc ?_ fun k hk => ?_
      · rintro (e | e | e)
        · exact h.file_ne hp e
        · exact hfar.1 e.symm
        · exact h.file_data hp hmem e rfl
      · rintro (e | e | e)
        · exact h.data_ne hp hk e
        · exact h.file_data hmem hp hk e.symm
        · exact hfar.2 k e hk
  · have hfar := hpair q hq hne
    refine ⟨by show f'.blk ≠ _; rw [hb]; exact hfar.1, fun k hk hk2 => ?_⟩
    rcases ho k hk with e | e
    · exact hfar.2 k e hk2
    · have := ((h.file q hq).2.1.own k hk2).2; omega
  · show u = (total (put n f' s.fs) : Int)
    omega
  · show total (put n f' s.fs) ≤ _
    omega
/-- A file struck. -/
theorem At.gone {n : List UInt8} {f : F} {b : Nat} {u : Int} (h : At w d s) (hl : YtogihpofkjpokaaGreatDoor.D4.look n s.fs = some f) (hm : s.m = some b) (hc : Ch (fun k => k = d ∨ k = b) w w')
    (hd : w'.heap[d]? = some (.cells ({ s with used := u, fs := del n s.fs } : S).cells 62 (0, 0))) (ho : w'.ownsMap Tryz.prog 9 rdP b s.fs.length ((dat (on F.blk s.fs)).del (.string n)))
    (hu : u + (f.data.length : Int) = s.used) : At w' d { s with used := u, fs := del n s.fs } := by
  have ht := total_del h.asc hl
  have hus := h.used
  have hmo := h.most
  refine ⟨hd, fun b' hb' => ?_, fun e => ?_, del_asc h.asc, fun p hp => h.names p (mem_del.1 hp).1, fun p hp => ?_, del_pairwise h.far, ?_, ?_, h.room, h.fuel⟩
  · have hb' : s.m = some b' := hb'
    rw [hm] at hb'
    cases hb'
    have := ownsMap_tight ho
    rw [dat_del, dat_size] at this
    show World.ownsMap _ _ _ _ _ (del n s.fs).length (dat (on F.blk (del n s.fs)))
    rw [← on_length F.blk, del_on]
    exact this
  · have e : s.m = none := e
    rw [hm] at e; cases e
  · have hp' := (mem_del.1 hp).1
    refine (h.file p hp').keep hc ?_ fun k hk => ?_
    · rintro (e | e)
      · exact h.file_ne hp' e
      · exact h.map_file hm hp' e
    · rintro (e | e)
      · exact h.data_ne hp' hk e
      · exact h.map_data hm hp' hk e
  · show u = (total (del n s.fs) : Int)
    omega
  · show total (del n s.fs) ≤ _
    omega
end
end Go.Proofs.YtogihpofkjpokaaGreatDoor.D4
