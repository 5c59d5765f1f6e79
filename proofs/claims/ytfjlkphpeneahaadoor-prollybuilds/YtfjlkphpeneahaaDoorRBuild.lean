/- The walk of the document's Build. -/
import Derived.Test.YtfjlkphpeneahaaDoorTBuild
import Derived.Test.YtfjlkphpeneahaaDoorTRight
import Derived.Test.YtfjlkphpeneahaaDoorM8
import Derived.Test.YtfjlkphpeneahaaDoorM4
import Derived.Deep.RegionWith
namespace Go.Proofs.YtfjlkphpeneahaaDoor
open Go Go.RowKit
attribute [-go_sem] Builtin.append_

/-- A level's items: given ones, or made ones. -/
structure ItS (w wr : World) (m : List It) (a : Option Addr) (c : Nat) : Prop where
  rd : RdP wr a m
  le : m.length ≤ c
  at_ : (∀ ad, a = some ad → ad.block < w.heap.size) ∨ OwP wr w.heap.size 43 (.slice a m.length c) m
theorem ItS.apart {w wr : World} {m : List It} {a : Option Addr} {c n : Nat} {v : Value} {xs : List Value} (h : ItS w wr m a c) (ho : wr.ownsRow w.heap.size 9 1 v n xs) (ad : Addr) (ha : a = some ad) : v.ownBlock ≠ some ad.block := by
  rcases h.at_ with h1 | h1
  · intro e
    have hlt := h1 ad ha
    rcases ho.2 with ⟨hv, _⟩ | ⟨g, cap, cur, hv, hb, _⟩
    · rw [hv] at e; cases e
    · rw [hv] at e; injection e with e; have : g = ad.block := e; omega
  · subst ha
    exact fun e => own_apart h1 ho (by decide) ad.block rfl e
theorem ItS.keep {w wr w2 : World} {S : Nat → Prop} {m : List It} {a : Option Addr} {c : Nat} (h : ItS w wr m a c) (hc : Ch S wr w2) (hs : ∀ ad, a = some ad → ¬ S ad.block) : ItS w w2 m a c where
  rd := h.rd.keep hc hs
  le := h.le
  at_ := h.at_.imp id fun h1 => own_keep h1 hc fun j hj => by
    cases a with
    | none => cases hj
    | some ad => injection hj with e; rw [← e]; exact hs ad rfl
theorem ItS.new {w wr w2 : World} {m : List It} {a : Option Addr} {c : Nat} (h : ItS w wr m a c) (hb : Below wr.heap.size wr w2) : ItS w w2 m a c := h.keep (Ch.of_new (S := fun _ => False) hb) fun _ _ => id
theorem ItS.lt {w wr : World} {m : List It} {a : Option Addr} {c : Nat} (h : ItS w wr m a c) (hm : 0 < m.length) (ad : Addr) (ha : a = some ad) : ad.block < wr.heap.size := by
  obtain ⟨b, off, e, hb⟩ := h.rd.blk hm
  rw [ha] at e
  injection e with e
  rw [e]; exact hb
/-- What the rounds up a tree keep. -/
structure RbI (w wr : World) (l m : List It) (lev : Nat) (acc : List Bs) (a : Option Addr) (c : Nat) (vn : Value) : Prop where
  up : UpS l lev m acc
  n : OwT wr w.heap.size vn acc
  b : Below w.heap.size w wr
  r : ItS w wr m a c
  room : acc.length + 1000 * (10 - lev) ≤ 20000
/-- What the rounds over the parts keep. -/
structure RpI (w wr : World) (g lev : Nat) (m : List It) (acc : List Bs) (a : Option Addr) (c : Nat) (es : List Nat) (ve vn vu : Value) (ii : Nat) : Prop where
  n : OwT wr w.heap.size vn (acc ++ (levelL lev m).take ii)
  u : OwP wr g 43 vu ((upsL lev m).take ii)
  e : OwN wr w.heap.size ve es
  r : ItS w wr m a c
  b : Below w.heap.size w wr
  gl : w.heap.size ≤ g ∧ g ≤ wr.heap.size
  ra : ∀ ad, a = some ad → ad.block < g
  re : ∀ k, ve.ownBlock = some k → k < g
set_option maxRecDepth 100000 in
set_option maxHeartbeats 8000000 in
theorem rbuild_any {w : World} {a : Option Addr} {l : List It} {c : Nat} (hR : RdP w a l) (hc : l.length ≤ c) (hl : l.length ≤ 1000) (hs : szL l ≤ 20000) :
    Calls Tryd.prog 14 #[.slice a l.length c] w fun e w' => ∃ v, e = .returned (.tuple #[.string (txt (buildL l).1), v, .bool (mapOk l)]) ∧ OwT w' w.heap.size v (buildL l).2 ∧ Below w.heap.size w w' := by
  have hl' : (l.length : Int) ≤ 1000 := by omega
  have P31 := Lib.hid (rright_any (c := c) hR (by omega) (fun x hx => by have := sz_mem hx; omega))
  have HR := Lib.hid (And.intro hR (And.intro hs hc))
  clear hR hs hc
  unfold buildL
  cases hm : mapOk l with
  | false =>
    rw [hm] at P31
    rw [if_neg (by simp)]
    have HM := Lib.hid hm
    clear hm
    go_enter Tryd.func14, Tryd.ntmps14
    go_wp2_with (go_at_call 31; (with_reducible refine P31.out.mono ?_); rintro e w1 ⟨rfl, hb1⟩)
    go_ret3
    exact ⟨_, rfl, OwT.nil _ _, hb1⟩
  | true =>
    rw [hm] at P31
    rw [if_pos rfl]
    have HM := Lib.hid hm
    clear hm
    by_cases h0 : l = []
    · subst h0
      rw [show treeL [] = (sha (nodeL 0 []), [nodeL 0 []]) from rfl]
      have P32 : Hid (∀ V, Calls Tryd.prog 32 #[.int .i64 0, .slice none 0 0] V fun e w' => e = .returned (.string (txt (nodeL 0 []))) ∧ Below V.heap.size V w') := Lib.hid fun V => rnode_any (w := V) 0 (by omega) (a := none) (l := []) (c := 0) (RdP.nil _ _) (by simp) (by simp)
      have P33 : Hid (∀ V, Calls Tryd.prog 33 #[.string (txt (nodeL 0 []))] V fun e w' => e = .returned (.string (txt (sha (nodeL 0 [])))) ∧ Below V.heap.size V w') := Lib.hid fun V => rprint_txt _ (by decide) V
      obtain ⟨t0, ht0⟩ : ∃ t0, nodeL 0 [] = t0 := ⟨_, rfl⟩
      rw [ht0] at P32 P33 ⊢
      clear ht0
      have HT : Hid (∀ V : World, OwT (V.alloc (.cells #[.string (txt t0)] 9)) V.heap.size (.slice (some ⟨V.heap.size, 0, none⟩) 1 1) [t0]) := Lib.hid fun V => OwT.single V t0
      generalize txt t0 = tt0 at *
      generalize txt (sha t0) = ts0 at *
      rw [List.length_nil] at P31 ⊢
      go_enter Tryd.func14, Tryd.ntmps14
      go_wp2_with (first
        | (go_at_call 31; (with_reducible refine P31.out.mono ?_); rintro e w1 ⟨rfl, hb1⟩)
        | (go_at_call 32; (with_reducible refine (P32.out _).mono ?_); rintro e w2 ⟨rfl, hb2⟩; have hb12 := hb1.trans (hb2.mono hb1.size))
        | (go_at_call 33; (with_reducible refine (P33.out _).mono ?_); rintro e w3 ⟨rfl, hb3⟩))
      go_ret3
      have hb := hb12.trans (hb3.mono hb12.size)
      have ht := HT.out w3
      exact ⟨_, rfl, ⟨ht.1, ht.2.imp id fun ⟨q, cap, cur, h1, h2, h3⟩ => ⟨q, cap, cur, h1, by have := hb.size; omega, h3⟩⟩, hb.alloc hb.size _⟩
    · have hlp : 1 ≤ (l.length : Int) := by have := List.length_pos_iff.2 h0; omega
      have hbf : ((l.length : Int) == 0) = false := beq_eq_false_iff_ne.2 (by omega)
      have HS := Lib.hid (LvS.base hl (by omega) HM.out HR.out.2.1)
      have HI0 : Hid (ItS w w l a c) := Lib.hid ⟨HR.out.1, HR.out.2.2, .inl fun ad ha => by
        obtain ⟨b, off, e, hb⟩ := HR.out.1.blk (by omega)
        rw [ha] at e
        injection e with e
        rw [e]; exact hb⟩
      go_enter Tryd.func14, Tryd.ntmps14
      go_wp2_with (go_at_call 31; (with_reducible refine P31.out.mono ?_); rintro e w1 ⟨rfl, hb1⟩)
      go_loopw [0, 5, 7] (fun va vn vl wr => ∃ (m : List It) (lev : Nat) (acc : List Bs) (a' : Option Addr) (c' : Nat), va = .slice a' m.length c' ∧ vl = .int .i64 (lev : Int) ∧ Hid (RbI w wr l m lev acc a' c' vn)) (fun va _ _ _ => lenOf va)
      case atStart => exact ⟨l, 0, [], a, c, rfl, rfl, Lib.hid ⟨UpS.start HS.out, OwT.nil _ _, hb1, HI0.out.new hb1, by simp⟩⟩
      case round =>
        clear hb1 HI0 P31
        obtain ⟨m, lev, acc, a', c', rfl, rfl, HI⟩ := hrel
        have hlo := HI.out.up.lo
        have hlo' : (lev : Int) ≤ 9 := by omega
        have hml : (m.length : Int) ≤ 1000 := by have := HI.out.up.s.few; omega
        obtain ⟨wa, hwa⟩ : ∃ wa, wa = wr := ⟨_, rfl⟩
        subst hwa
        go_wp2
        go_loopw [8, 9] (fun v i wq => ∃ ii : Nat, i = .int .i64 (ii : Int) ∧ ii ≤ m.length ∧ Hid (OwT wq wa.heap.size v ((m.take ii).map itemL) ∧ Below wa.heap.size wa wq)) (fun _ i _ => m.length - (intOf i).toNat)
        case atStart => exact ⟨0, rfl, Nat.zero_le _, Lib.hid ⟨OwT.nil _ _, Below.refl _ _⟩⟩
        case round =>
          obtain ⟨ii, rfl, hi, HQ⟩ := hrel
          have hzq := HQ.out.2.size
          have hzr := HI.out.b.size
          have hRm := HI.out.r.new HQ.out.2
          by_cases hlt : ii < m.length
          · have hlt' : (ii : Int) < (m.length : Int) := by omega
            have hi0 : (0 : Int) ≤ (ii : Int) := by omega
            obtain ⟨b, off, rfl, k1, k2⟩ := hRm.rd ii hlt
            have hkx := HI.out.up.s.ok (by omega)
            have P34 := Lib.hid (fun W => rbytes_any (itD m ii) (by have := hkx.item _ (itD_mem hlt); omega) W)
            have htk : (m.take (ii + 1)).map itemL = (m.take ii).map itemL ++ [itemL (itD m ii)] := by rw [take_itD hlt, List.map_append]; rfl
            obtain ⟨tx, htx⟩ : ∃ tx, itemL (itD m ii) = tx := ⟨_, rfl⟩
            rw [htx] at P34 htk
            have HTK := Lib.hid htk
            have hln : ((m.take ii).map itemL).length ≤ 1000 := by rw [List.length_map, List.length_take]; omega
            clear htx htk hkx hRm
            unfold iv at P34
            generalize itD m ii = x at *
            obtain ⟨xk, xv⟩ := x
            dsimp only at k1 k2 P34
            obtain ⟨ttx, httx⟩ : ∃ ttx, txt tx = ttx := ⟨_, rfl⟩
            rw [httx] at P34
            have HX := Lib.hid httx
            clear httx
            generalize txt xk = txk at *
            generalize txt xv = txv at *
            go_wp2_with (first
              | (go_at_call 34; (with_reducible refine (P34.out _).mono ?_); rintro e w2 ⟨rfl, hb2⟩; have hN := (HQ.out.1.new hb2).new ((Below.refl w2.heap.size w2).alloc (Nat.le_refl _) (.cells #[.string ttx] 9)); have hz2 := hb2.size)
              | (at_builtin; refine wpList_one rfl (.tmp 35) (.tmp 41) rfl wa.heap.size _ _ rfl hN w2.heap.size tx rfl (by rw [HX.out]; exact heap_alloc_new w2 _) (by omega) (by simp; omega) ?_; intro v5 w5 o5 c5))
            have hb5 : Below wa.heap.size wa w5 := HQ.out.2.trans (((hb2.mono hzq).alloc (by omega) (.cells #[.string ttx] 9)).trans (c5.below (by simp; omega) fun k hk e => by have := (HQ.out.1.own k e).1; omega))
            go_roundw
            case rel => exact ⟨ii + 1, by go_num, by omega, Lib.hid ⟨by rw [HTK.out]; exact o5, hb5⟩⟩
            case measure => simp [intOf]; omega
          · have hlt' : (m.length : Int) ≤ (ii : Int) := by omega
            have e0 : ii = m.length := by omega
            subst e0
            have hT := HQ.out.1
            rw [List.take_length] at hT
            obtain ⟨qa, qc, hv, hRT, _⟩ := hT.rd
            subst hv
            have hkx := HI.out.up.s.ok (by omega)
            have P35 := Lib.hid (rcut_any qa qc (m.map itemL) hRT (by rw [List.length_map]; omega) (fun y hy => by
              obtain ⟨x, hx, rfl⟩ := List.mem_map.1 hy
              have := hkx.item x hx
              rw [itemL_len]
              omega))
            rw [List.length_map] at P35
            obtain ⟨es, hes⟩ : ∃ es, cutG E 0 (m.map itemL) = es := ⟨_, rfl⟩
            rw [hes] at P35
            have HES := Lib.hid hes
            have HRM := Lib.hid hRm
            have hNq := HI.out.n.new HQ.out.2
            have HNQ := Lib.hid hNq
            have HKX := Lib.hid hkx
            rw [List.length_map]
            clear hT hRT hes hRm hkx hNq
            go_wp2_with (go_at_call 35; (with_reducible refine P35.out.mono ?_); rintro e w3 ⟨ve, rfl, hoe, hb3⟩; obtain ⟨ea, ec, hve, _⟩ := hoe.rd; subst hve)
            have hz3 := hb3.size
            have hmp : 0 < m.length := HI.out.up.s.pos
            have hrt : RpI w w3 w3.heap.size lev m acc a' c' es (.slice ea es.length ec) u5 (.slice none 0 0) 0 := by
              refine ⟨?_, OwP.nil _ _ _, ⟨hoe.1, hoe.2.imp id fun ⟨q, cap, cur, h1, h2, h3⟩ => ⟨q, cap, cur, h1, by omega, h3⟩⟩, HRM.out.new hb3, HI.out.b.trans ((HQ.out.2.mono hzr).trans (hb3.mono (by omega))), ⟨by omega, Nat.le_refl _⟩, fun ad ha => (HRM.out.new hb3).lt hmp ad ha, fun k hk => ?_⟩
              · rw [List.take_zero, List.append_nil]; exact HNQ.out.new hb3
              · obtain ⟨cc, hcc⟩ := own_kind hoe k hk
                exact lt_of_heap hcc
            have HR0 := Lib.hid hrt
            have hsum : es.sum = m.length := HES.out ▸ cut_sum m
            have hsum' : (es.sum : Int) ≤ 1000 := by omega
            have hpl : (partsOf m).length = es.length := by rw [partsOf_len, HES.out]
            have hel : (es.length : Int) ≤ 1001 := by
              have := cutG_len E (m.map itemL) 0
              rw [HES.out, List.length_map] at this
              omega
            have haf := HI.out.up.few
            have HST := Lib.hid (HI.out.up.step HI.out.room)
            have HUS := Lib.hid HI.out.up
            obtain ⟨g, hg⟩ : ∃ g, g = w3.heap.size := ⟨_, rfl⟩
            rw [← hg] at HR0
            clear hrt hoe HNQ HRM HQ hb3 HI hz3 hzq hzr hlt hlt' hi P35 hg
            go_loopw [5, 11, 12, 13] (fun vn vu ps i wx => ∃ ii : Nat, i = .int .i64 (ii : Int) ∧ ii ≤ es.length ∧ ps = .int .i64 (((es.take ii).sum : Nat) : Int) ∧ Hid (RpI w wx g lev m acc a' c' es (.slice ea es.length ec) vn vu ii)) (fun _ _ _ i _ => es.length - (intOf i).toNat)
            case atStart => exact ⟨0, rfl, Nat.zero_le _, rfl, HR0⟩
            case round =>
              clear HR0
              obtain ⟨ii, rfl, hi, rfl, HI⟩ := hrel
              by_cases hlt : ii < es.length
              · have hlt' : (ii : Int) < (es.length : Int) := by omega
                have hi0 : (0 : Int) ≤ (ii : Int) := by omega
                obtain ⟨ea', ec', hve, hRN⟩ := HI.out.e.rd
                injection hve with q1 q2 q3
                subst q1; subst q3
                obtain ⟨b, off, rfl, k1⟩ := hRN ii hlt
                have hs0 := sum_take_le es ii hlt
                have hs1 := sum_take_succ hlt
                have hq := partsL_at es m ii hlt
                obtain ⟨B, hB⟩ : ∃ B, (es.take ii).sum = B := ⟨_, rfl⟩
                obtain ⟨S, hS⟩ : ∃ S, es.getD ii 0 = S := ⟨_, rfl⟩
                rw [hB, hS] at hs1 hq hs0
                rw [hS] at k1
                rw [hB]
                have hqm : (m.drop B).take S ∈ partsOf m := by
                  unfold partsOf
                  rw [HES.out]
                  exact List.mem_of_getElem? hq
                obtain ⟨q, hqq⟩ : ∃ q, (m.drop B).take S = q := ⟨_, rfl⟩
                have hql : q.length = S := by rw [← hqq, List.length_take, List.length_drop]; omega
                rw [hqq] at hqm hq
                have hq2 : (partsOf m)[ii]? = some q := by unfold partsOf; rw [HES.out]; exact hq
                have ht1 := map_snoc (nodeL lev) _ hq2
                have ht2 := map_snoc (upI lev) _ hq2
                have hq16 := partsOf_mem hqm
                have hOK := HUS.out.s.node hqm
                have htd : lev ≠ 0 → ∀ x ∈ q, toldOk x = true := fun h x hx => HUS.out.s.told h x (part_mem hqm hx)
                have hqx : ∀ x ∈ q, x.1.length ≤ 20000 ∧ x.2.length ≤ 20000 := fun x hx => by
                  have := (HUS.out.s.ok (by omega)).item x (part_mem hqm hx)
                  omega
                have sP : ∀ V, (Instr.slice 22 (.slice a' m.length c') (some (.int .i64 (B : Int))) (some (.int .i64 ((B : Int) + (S : Int)))) none).run Tryd.prog V = .ok (.slice (if c' = B then a' else a'.map (·.add (B * 2))) S (c' - B)) V := fun V => by
                  rw [run_slice_lh (P := Tryd.prog) V 22 a' m.length c' (by kernel_rfl) .i64 .i64 _ _ (by omega) (by omega) (by have := HI.out.r.le; omega)]
                  show Result.ok (sliced _ B (B + S) c' 2) V = _
                  unfold sliced
                  rw [Nat.add_sub_cancel_left]
                have HRQ : Hid (∀ V, RdP V a' m → RdP V (if c' = B then a' else a'.map (·.add (B * 2))) q) := Lib.hid fun V hV => by
                  have h1 := (hV.cut B c' HI.out.r.le).take S
                  rw [hqq] at h1
                  exact h1
                obtain ⟨ap1, hap1⟩ : ∃ ap1, (if c' = B then a' else a'.map (·.add (B * 2))) = ap1 := ⟨_, rfl⟩
                rw [hap1] at sP HRQ
                obtain ⟨bq, oq, hpe, k2, _⟩ := HRQ.out _ HI.out.r.rd (q.length - 1) (by omega)
                subst hpe
                rw [hql] at k2
                generalize c' - B = cp1 at *
                have P32 : Hid (∀ V, RdP V a' m → Calls Tryd.prog 32 #[.int .i64 (lev : Int), .slice (some ⟨bq, oq, none⟩) S cp1] V fun e w' => e = .returned (.string (txt (nodeL lev q))) ∧ Below V.heap.size V w') := Lib.hid fun V hV => by
                  have h2 := rnode_any lev (by omega) (HRQ.out V hV) (c := cp1) (by omega) hqx
                  rw [hql] at h2
                  exact h2
                have P37 : Hid (∀ V, RdP V a' m → Calls Tryd.prog 37 #[.int .i64 (lev : Int), .slice (some ⟨bq, oq, none⟩) S cp1] V fun e w' => e = .returned (.int .i64 (totL lev q : Int)) ∧ Below V.heap.size V w') := Lib.hid fun V hV => by
                  have h2 := rtotal_any lev (HRQ.out V hV) (c := cp1) (by omega) htd
                  rw [hql] at h2
                  exact h2
                have HKEY : Hid (∀ V, RdP V a' m → V.cell? ⟨bq, oq + (S - 1) * 2, none⟩ = some (.string (txt (itD q (S - 1)).1))) := Lib.hid fun V hV => by
                  obtain ⟨b3, o3, he3, h3, _⟩ := HRQ.out V hV (q.length - 1) (by omega)
                  injection he3 with he3
                  injection he3 with e1 e2
                  subst e1; subst e2
                  rw [hql] at h3
                  exact h3
                have P33 := Lib.hid (fun V => rprint_txt (nodeL lev q) hOK.1 V)
                have P36 := Lib.hid (fun V => reight_any (totL lev q) (by have := hOK.2; omega) V)
                have hcat := cat (sha (nodeL lev q)) (be8 (totL lev q)) (by rw [sha_len, be8_len]; omega)
                have hui : ((itD q (S - 1)).1, sha (nodeL lev q) ++ be8 (totL lev q)) = upI lev q := by unfold upI; rw [hql]
                have HX := Lib.hid (And.intro ht1 (And.intro ht2 (And.intro hs1 (And.intro hB hui))))
                have hS1 : (1 : Int) ≤ (S : Int) := by omega
                have hS16 : (S : Int) ≤ 16 := by omega
                have hBS : (B : Int) + (S : Int) ≤ 1000 := by omega
                clear ht1 ht2 hs1 hB hS hq hqm hqq hql hq2 hOK hs0 hRN hq16 hui htd hqx hap1
                obtain ⟨tn, htn⟩ : ∃ tn, nodeL lev q = tn := ⟨_, rfl⟩
                rw [htn] at P32 P33 HX hcat
                clear htn
                generalize (itD q (S - 1)).1 = uk at *
                generalize totL lev q = T at *
                obtain ⟨uv, huv⟩ : ∃ uv, sha tn ++ be8 T = uv := ⟨_, rfl⟩
                rw [huv] at hcat HX
                clear huv
                obtain ⟨ttn, httn⟩ : ∃ ttn, txt tn = ttn := ⟨_, rfl⟩
                obtain ⟨tuk, htuk⟩ : ∃ tuk, txt uk = tuk := ⟨_, rfl⟩
                obtain ⟨tuv, htuv⟩ : ∃ tuv, txt uv = tuv := ⟨_, rfl⟩
                rw [httn] at P32 P33
                rw [htuk] at HKEY k2
                rw [htuv] at hcat
                have HX3 := Lib.hid (And.intro httn (And.intro htuk htuv))
                clear httn htuk htuv
                generalize txt (sha tn) = tsh at *
                generalize txt (be8 T) = tb8 at *
                have hlen1 : (acc ++ (levelL lev m).take ii).length ≤ 1002000 := by rw [List.length_append, List.length_take]; omega
                have hlen2 : ((upsL lev m).take ii).length ≤ 1001 := by rw [List.length_take]; omega
                have hgw := HI.out.gl
                obtain ⟨wx, hwx⟩ : ∃ wx, wx = wr := ⟨_, rfl⟩
                subst hwx
                go_upto_region 24 with (first
                  | (go_at_call 32; (with_reducible refine (P32.out _ HI.out.r.rd).mono ?_); rintro e w4 ⟨rfl, hb4⟩; have hz4 := hb4.size; have hN := (HI.out.n.new hb4).new ((Below.refl w4.heap.size w4).alloc (Nat.le_refl _) (.cells #[.string ttn] 9)))
                  | (at_builtin; go_loud (refine wpList_one rfl (.tmp 69) (.tmp 71) rfl w.heap.size _ _ rfl hN w4.heap.size tn rfl (by rw [HX3.out.1]; exact heap_alloc_new w4 _) (by omega) (by simp; omega) ?_; intro v5 w5 o5 c5)))
                have hb4a : Below g wx w4 := hb4.mono hgw.2
                have hU4 := (HI.out.u.new hb4).new ((Below.refl w4.heap.size w4).alloc (Nat.le_refl _) (.cells #[.string ttn] 9))
                have hE4 := own_new (own_new HI.out.e hb4) ((Below.refl w4.heap.size w4).alloc (Nat.le_refl _) (.cells #[.string ttn] 9))
                have hR4 := (HI.out.r.new hb4).new ((Below.refl w4.heap.size w4).alloc (Nat.le_refl _) (.cells #[.string ttn] 9))
                have hU5 := hU4.keep c5 (own_apart hU4 hN (by decide))
                have hE5 := own_keep hE4 c5 (own_apart hE4 hN (by decide))
                have hR5 := hR4.keep c5 (fun ad ha => hR4.apart hN ad ha)
                have hb5 : Below w.heap.size w w5 := HI.out.b.trans (((hb4.mono (by omega)).alloc (by omega) (.cells #[.string ttn] 9)).trans (c5.below (by simp; omega) fun k hk e => by have := (hN.own k e).1; omega))
                have hz5 : w4.heap.size ≤ w5.heap.size := by have := c5.size; simp at this; omega
                have HV : Hid (∀ V, Below w5.heap.size w5 V → V.cell? ⟨bq, oq + (S - 1) * 2, none⟩ = some (.string tuk) ∧ RdP V a' m ∧ ∃ v7 w7, (Builtin.append_ #[22, 22] 22 #[u11, .slice (some ⟨V.heap.size, 0, none⟩) 1 1]).run Tryd.prog (V.alloc (.cells #[.string tuk, .string tuv] 43)) = .ok v7 w7 ∧ RpI w w7 g lev m acc a' c' es (.slice (some ⟨b, off, none⟩) es.length ec) v5 v7 (ii + 1)) := Lib.hid fun V hV => by
                  have hVA := hV.alloc hV.size (.cells #[.string tuk, .string tuv] 43)
                  have hUV := hU5.new hVA
                  have hzv := hV.size
                  obtain ⟨v7, w7, hrun, o7, c7, _⟩ := pair_run (V.alloc (.cells #[.string tuk, .string tuv] 43)) 22 22 43 (by kernel_rfl) Tryd.info43 g u11 _ hUV V.heap.size (uk, uv) (by rw [← HX3.out.2.1, ← HX3.out.2.2]; exact heap_alloc_new V _) (by omega) (by simp; omega)
                  have hb7 : Below g (V.alloc (.cells #[.string tuk, .string tuv] 43)) w7 := c7.below (by simp; omega) fun k hk e => by have := (hUV.own k e).1; omega
                  have hz7 := hb7.size
                  refine ⟨HKEY.out V (hR5.new hV).rd, (hR5.new hV).rd, v7, w7, hrun, ?_, ?_, ?_, ?_, ?_, ⟨hgw.1, by simp at hz7; omega⟩, HI.out.ra, HI.out.re⟩
                  · have o5V := o5.new hVA
                    have o57 := o5V.keep c7 (own_apart o5V hUV (by decide))
                    rw [show (levelL lev m).take (ii + 1) = (levelL lev m).take ii ++ [tn] from HX.out.1, ← List.append_assoc]
                    exact o57
                  · rw [HX.out.2.2.2.2] at o7
                    rw [show (upsL lev m).take (ii + 1) = (upsL lev m).take ii ++ [upI lev q] from HX.out.2.1]
                    exact o7
                  · exact own_below (own_new hE5 hVA) hb7 HI.out.re
                  · exact (hR5.new hVA).keep c7 (fun ad ha e => by have := (hUV.own _ e).1; have := HI.out.ra ad ha; omega)
                  · exact hb5.trans ((hVA.mono hb5.size).trans (hb7.mono hgw.1))
                obtain ⟨k3, hr3, -⟩ := HV.out _ (Below.refl _ _)
                obtain ⟨kd3, hrd3, -⟩ := HV.out _ (Below.refl w5.heap.size w5).drew
                have HH := Lib.hid (And.intro hr3 hrd3)
                have i1 : IntKind.i64.wrap ((S : Int) - 1) = (S : Int) - 1 := IntWalk.i64_in _ (by omega)
                have i2 : (0 : Int) ≤ (S : Int) - 1 := by omega
                have i3 : (S : Int) - 1 < (S : Int) := by omega
                have i4 : ((S : Int) - 1).toNat = S - 1 := by omega
                have i6 : wrap64 ((S : Int) - 1) = (S : Int) - 1 := by unfold wrap64; omega
                clear hb4 hb4a hU4 hE4 hR4 hU5 hE5 hR5 hb5 o5 c5 hN hr3 hrd3 k2 k1 hz4 hz5 hgw hlen1 hlen2 sP P32 HRQ
                go_region_with (first
                  | (go_at_call 33; (with_reducible refine (P33.out _).mono ?_); rintro e w6 ⟨rfl, hb6⟩; have hbn : Below w5.heap.size w5 w6 := (by first | exact undrew hb6 | exact Below.trans hbc (hb6.mono hbc.size)); have hbc := hbn; clear hb6 hbn; obtain ⟨kx, rx, v7, w7, hrun, hI7⟩ := HV.out _ hbc)
                  | (go_at_call 37; (with_reducible refine (P37.out _ (by first | assumption | exact HH.out.2)).mono ?_); rintro e w6 ⟨rfl, hb6⟩; have hbn : Below w5.heap.size w5 w6 := (by first | exact undrew hb6 | exact Below.trans hbc (hb6.mono hbc.size)); have hbc := hbn; clear hb6 hbn; obtain ⟨kx, rx, v7, w7, hrun, hI7⟩ := HV.out _ hbc)
                  | (go_at_call 36; (with_reducible refine (P36.out _).mono ?_); rintro e w6 ⟨rfl, hb6⟩; have hbn : Below w5.heap.size w5 w6 := (by first | exact undrew hb6 | exact Below.trans hbc (hb6.mono hbc.size)); have hbc := hbn; clear hb6 hbn; obtain ⟨kx, rx, v7, w7, hrun, hI7⟩ := HV.out _ hbc))
                all_goals (
                  clear hrun kx rx hbc
                  go_wp2
                  refine ⟨?_, ?_⟩
                  · exact ⟨ii + 1, by go_num, by omega, by rw [HX.out.2.2.1]; go_num, Lib.hid hI7⟩
                  · simp [intOf]; omega)
              · have hlt' : (es.length : Int) ≤ (ii : Int) := by omega
                have hn := HI.out.n
                have hu := HI.out.u
                rw [List.take_of_length_le (by unfold levelL; rw [List.length_map]; omega)] at hn
                rw [List.take_of_length_le (by unfold upsL; rw [List.length_map]; omega)] at hu
                obtain ⟨a2, c2, hv2, hrd2, hc2, -, -, -⟩ := hu.rd
                subst hv2
                have hup := HUS.out.s.up
                have hlf := hup.few
                have hlp2 := hup.pos
                have HF := Lib.hid (And.intro hn hu)
                by_cases h1 : (upsL lev m).length = 1
                · have h1' : ((upsL lev m).length : Int) = 1 := by omega
                  have HE := Lib.hid (HST.out.1 h1)
                  obtain ⟨b2, off2, rfl, k0, k1⟩ := hrd2 0 (by omega)
                  rw [Nat.zero_mul, Nat.add_zero] at k0 k1
                  have htd := told_len (hup.told (by omega) _ (itD_mem (l := upsL lev m) (i := 0) (by omega)))
                  have zv := txt_size (itD (upsL lev m) 0).2
                  have hcut : (txt (itD (upsL lev m) 0).2).extract 0 32 = txt (prn (itD (upsL lev m) 0)) := by rw [ext_txt]; rfl
                  have hsl : ∀ W : World, (Instr.slice 9 (.string (txt (itD (upsL lev m) 0).2)) none (some (.int .i64 32)) none).run Tryd.prog W = .ok (.string (txt (prn (itD (upsL lev m) 0)))) W := fun W => by
                    rw [run_slice_string_h (P := Tryd.prog) W 9 _ Tryd.underlying9 .i64 _ (by omega) (by omega), ← hcut]
                    rfl
                  obtain ⟨tp, htp⟩ : ∃ tp, txt (prn (itD (upsL lev m) 0)) = tp := ⟨_, rfl⟩
                  rw [htp] at hsl
                  have HTP := Lib.hid htp
                  generalize txt (itD (upsL lev m) 0).2 = tv at *
                  generalize txt (itD (upsL lev m) 0).1 = tk at *
                  clear htp htd hcut hn hu zv
                  go_wp2
                  go_ret3
                  rw [HE.out]
                  dsimp only
                  rw [HTP.out]
                  exact ⟨_, rfl, HF.out.1, HI.out.b⟩
                · have h1' : ¬ ((upsL lev m).length : Int) = 1 := by omega
                  have HE := Lib.hid (HST.out.2 h1)
                  clear h1 hn hu
                  go_wp2
                  go_roundw
                  case rel => exact ⟨upsL lev m, lev + 1, acc ++ levelL lev m, a2, c2, rfl, by go_num, Lib.hid ⟨HE.out.1, HF.out.1, HI.out.b, ⟨hrd2, hc2, .inr (HF.out.2.low HI.out.gl.1)⟩, HE.out.2.2⟩⟩
                  case measure => exact HE.out.2.1
end Go.Proofs.YtfjlkphpeneahaaDoor
