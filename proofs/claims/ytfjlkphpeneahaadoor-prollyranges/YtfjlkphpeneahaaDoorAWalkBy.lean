/- Walk of the document's By. -/
import Derived.Test.YtfjlkphpeneahaaDoorAByBase
import Derived.Deep.RegionLaw
namespace Go.Proofs.YtfjlkphpeneahaaDoor.S1
open Go.RowKit
set_option maxRecDepth 100000 in
set_option maxHeartbeats 40000000 in
theorem by_any (s : ByteArray) (hs : s.size ≤ 100000) (st : St) (kl : List (BitVec 32)) (hkl : kl.length = 64) (g1 c1 g2 c2 : Nat) (w : World) (hf : WC w g1 st.l) (hk : WC w g2 kl) :
    Calls Tryd.prog 62 #[.string s, .slice (some ⟨g1, 0, none⟩) 8 c1, .slice (some ⟨g2, 0, none⟩) 64 c2] w fun e w' => e = .returned (.string ⟨(shaG (fun j => kl.getD j 0) st s.data.toList).text.toArray⟩) ∧ Kp w.heap.size w w' := by
  have HKL := Lib.hid hkl
  clear hkl
  obtain ⟨i0, hi, hz0, hz1, hz2⟩ := info_parts Tryd.info110
  have HI := Lib.hid (And.intro hi (And.intro hz0 (And.intro hz1 hz2)))
  clear hi hz0 hz1 hz2
  obtain ⟨sp, hsp⟩ : ∃ x : ByteArray, x = s ++ ByteArray.mk #[128] := ⟨_, rfl⟩
  have hadd : ∀ w, (Op.stringOp .add s (ByteArray.mk #[128])).run Tryd.prog w = .ok (.string sp) w := fun w => by rw [hsp]; exact run_string_add_sum w _ _ (by show s.size + 1 ≤ _; omega)
  have hspl : sp.data.toList = s.data.toList ++ [128] := by rw [hsp, ByteArray.data_append, Array.toList_append]
  have HSP := Lib.hid hspl
  clear hsp hspl
  go_enter Tryd.func62, Tryd.ntmps62
  go_upto_region 2 with (at_builtin; refine wpList_append_own _ rfl (.tmp 32) (.tmp 33) 120 rfl w.heap.size 110 i0 (.int .u32 0) 1 4 Tryd.underlying120 HI.out.1 HI.out.2.1 HI.out.2.2.1 HI.out.2.2.2 rfl (by decide) (.slice (some ⟨w.heap.size, 0, none⟩) 0 0) 0 [] rfl (World.ownsRow_made w #[] 0 (Nat.le_refl _) (by decide) rfl) ⟨g1, 0, none⟩ 8 c1 (st.l.map wv) rfl rfl ?c1 ?c2 ?c3 ?c4 ?c5 ?_)
  case c1 =>
    intro j x hj
    have hj' : j < st.l.length := by have := (List.getElem?_eq_some_iff.1 hj).1; simpa using this
    have e : (⟨g1, 0, none⟩ : Addr).add j = ⟨g1, j, none⟩ := by unfold Addr.add; split <;> simp_all
    rw [e, (hf.alloc _).cell j hj', ← hj]
    simp [wv, hj']
  case c2 =>
    intro x hx
    obtain ⟨b, _, rfl⟩ := List.mem_map.1 hx
    rfl
  case c3 => decide
  case c4 => decide
  case c5 => simp
  intro v7 w1 hown7 hgr7 _
  have kp1 : Kp w.heap.size w w1 := Below.kp (((Below.refl _ _).alloc (Nat.le_refl _) _).grown hgr7 (by simp) (fun k hk => by simp [Value.ownBlock] at hk; omega))
  obtain ⟨g7, cap7, rfl, hg7, h7⟩ := WC.of_own (l := st.l) hown7 (by simp [St.l])
  obtain ⟨v8, w2, hcv8, hsb0, kp2⟩ := sb_of w1 sp
  obtain ⟨g8, cap8, rfl, hg8, hbr8⟩ := hsb0.br
  have hz7 := h7.lt
  have hk2 := (hk.kp kp1 hk.lt).kp kp2 (Nat.lt_of_lt_of_le hk.lt kp1.size)
  have h72 := h7.kp kp2 hz7
  have kp3 : Kp w.heap.size w w2 := kp1.trans (kp2.mono kp1.size)
  have hsz := kp2.size
  have hg2 : g2 < w.heap.size := hk.lt
  clear hown7 hgr7 hf hk h7 kp1 hbr8
  have hlen0 : sp.data.toList.length = s.size + 1 := by rw [HSP.out]; simp
  have hspz : sp.size = s.size + 1 := hlen0
  rw [hlen0] at hsb0 hcv8
  rw [HSP.out] at hsb0
  simp only [show st.l.length = 8 from rfl]
  clear hlen0
  have HZ := Lib.hid hspz
  clear hspz
  generalize hB8 : w1.heap.size = B8 at kp2 hsb0 hg8 hz7 hsz
  have HB8 := Lib.hid hB8
  clear hB8 kp2
  go_wp2_with fail
  clear hadd hcv8
  go_loopw [8] (fun v wr => ∃ (z g cap m : Nat) (l : List UInt8), v = .slice (some ⟨g, 0, none⟩) m cap ∧ z ≤ zerosFor s.size ∧ Hid (m = s.size + 1 + z ∧ l = s.data.toList ++ [128] ++ List.replicate z 0) ∧ SB wr B8 (.slice (some ⟨g, 0, none⟩) m cap) (l.map bv) ∧ Kp w.heap.size w wr ∧ WC wr g2 kl ∧ WC wr g7 st.l ∧ B8 ≤ wr.heap.size) (fun v _ => zerosFor s.size + s.size + 1 - sliceLen v)
  case atStart => exact ⟨0, g8, cap8, s.size + 1, _, rfl, Nat.zero_le _, Lib.hid ⟨rfl, rfl⟩, by simpa using hsb0, kp3, hk2, h72, hsz⟩
  case round =>
    clear hsb0 kp3 hk2 h72 hsz hg8
    obtain ⟨z, g, cap, m, l, rfl, hz, hm, hsb, hkp, hwk, hw7, hB8⟩ := hrel
    by_cases hlt : z < zerosFor s.size
    · have ht : ((m : Int) % 64 != 56) = true := by
        have e := hm.out.1
        unfold zerosFor at hlt
        simp only [bne_iff_ne, ne_eq]
        omega
      have hll : l.length + 1 ≤ 100000000 := by
        rw [hm.out.2]; simp; have : s.data.size = s.size := rfl; unfold zerosFor at hlt; omega
      go_wp2_with (at_builtin; refine wpList_gather rfl (.tmp 42) (.tmp 43) rfl B8 (.slice (some ⟨g, 0, none⟩) m cap) (l.map bv) rfl (hsb.alloc _) ?_ _ 1 [bv 0] rfl (src_new (l := [0]) 1 rfl (heap_alloc_new _ _)) (by decide) ?_ ?_; (simp; omega); (rw [List.length_map]; exact hll); intro v' w3 hsb3 hkp3)
      have e3 : SB w3 B8 v' ((l ++ [0]).map bv) := by rw [List.map_append]; exact hsb3
      obtain ⟨g', cap', hv', hge', _⟩ := SB.br e3
      subst hv'
      have hk3 : Kp w.heap.size w w3 := (hkp.alloc hkp.size _).trans (hkp3.mono (by omega))
      have hwk3 := (hwk.alloc (.cells #[.int .u8 0] 5)).kp hkp3 (by omega)
      have hw73 := (hw7.alloc (.cells #[.int .u8 0] 5)).kp hkp3 hz7
      have hz3 : B8 ≤ w3.heap.size := by have := hkp3.size; simp at this; omega
      have hln : (l ++ [0]).length = m + 1 := by
        have h1 := hm.out.1
        rw [hm.out.2]; simp; have : s.data.size = s.size := rfl; omega
      clear hsb hkp hwk hw7 hB8 hsb3 hkp3 hge'
      rw [hln] at e3
      go_roundw
      case rel =>
        refine ⟨z + 1, g', cap', m + 1, l ++ [0], by rw [hln], by omega, Lib.hid ⟨by have := hm.out.1; omega, ?_⟩, e3, hk3, hwk3, hw73, hz3⟩
        rw [hm.out.2, List.append_assoc _ _ [0], List.replicate_succ']
      case measure => rw [hln]; simp [sliceLen]; have := hm.out.1; omega
    · have ht : ((m : Int) % 64 != 56) = false := by
        have e := hm.out.1
        have hz' : z = zerosFor s.size := by omega
        unfold zerosFor at hz'
        simp only [bne_eq_false_iff_eq]
        omega
      have hzz : z = zerosFor s.size := by omega
      have HM := Lib.hid (show m = s.size + 1 + zerosFor s.size ∧ l = s.data.toList ++ [128] ++ List.replicate (zerosFor s.size) 0 by rw [← hzz]; exact hm.out)
      clear hzz hm hlt hz
      have hm100 : m ≤ 100200 := by rw [HM.out.1]; unfold zerosFor; omega
      go_wp2
      go_loopw [8, 10] (fun v i wr => ∃ (k g cap m' : Nat) (l' : List UInt8), v = .slice (some ⟨g, 0, none⟩) m' cap ∧ i = .int .i64 (7 - (k : Int)) ∧ k ≤ 8 ∧ Hid (m' = m + k ∧ l' = l ++ (List.range k).map (lenByte s.size)) ∧ SB wr B8 (.slice (some ⟨g, 0, none⟩) m' cap) (l'.map bv) ∧ Kp w.heap.size w wr ∧ WC wr g2 kl ∧ WC wr g7 st.l ∧ B8 ≤ wr.heap.size) (fun _ i _ => (intOf i + 1).toNat)
      case atStart => exact ⟨0, g, cap, m, l, rfl, rfl, by omega, Lib.hid ⟨rfl, by simp⟩, hsb, hkp, hwk, hw7, hB8⟩
      case round =>
        clear hsb hkp hwk hw7 hB8
        obtain ⟨k, g, cap, m', l', rfl, rfl, hk8, hm', hsb, hkp, hwk, hw7, hB8⟩ := hrel
        by_cases hlt : k < 8
        · have hi0 : (0 : Int) ≤ 7 - (k : Int) := by omega
          have hs0 : (0 : Int) ≤ 8 * (7 - (k : Int)) := by omega
          have hst : (8 * (7 - (k : Int))).toNat = 56 - 8 * k := by omega
          have hfd : (s.size : Int) * 8 / 2 ^ (56 - 8 * k) % 256 = ((lenByte s.size k).toNat : Int) := by rw [Int.mul_comm]; exact lenByte_toNat s.size k
          have hll : l'.length + 1 ≤ 100000000 := by
            rw [hm'.out.2, HM.out.2]; simp; have : s.data.size = s.size := rfl; unfold zerosFor; omega
          generalize hnb : lenByte s.size k = nb at hfd
          have HNB := Lib.hid hnb
          clear hnb
          go_wp2_with (at_builtin; refine wpList_gather rfl (.tmp 53) (.tmp 59) rfl B8 (.slice (some ⟨g, 0, none⟩) m' cap) (l'.map bv) rfl (hsb.alloc _) ?_ _ 1 [bv nb] rfl (src_new (l := [nb]) 1 rfl (heap_alloc_new _ _)) (by decide) ?_ ?_; (simp; omega); (rw [List.length_map]; exact hll); intro v' w3 hsb3 hkp3)
          have e3 : SB w3 B8 v' ((l' ++ [nb]).map bv) := by rw [List.map_append]; exact hsb3
          obtain ⟨g', cap', hv', hge', _⟩ := SB.br e3
          subst hv'
          have hk3 : Kp w.heap.size w w3 := (hkp.alloc hkp.size _).trans (hkp3.mono (by omega))
          have hwk3 := (hwk.alloc (.cells #[.int .u8 (nb.toNat : Int)] 5)).kp hkp3 (by omega)
          have hw73 := (hw7.alloc (.cells #[.int .u8 (nb.toNat : Int)] 5)).kp hkp3 hz7
          have hz3 : B8 ≤ w3.heap.size := by have := hkp3.size; simp at this; omega
          have hln : (l' ++ [nb]).length = m' + 1 := by
            have h1 := hm'.out.1
            have h2 := HM.out.1
            rw [hm'.out.2, HM.out.2]; simp; have : s.data.size = s.size := rfl; omega
          clear hsb hkp hwk hw7 hB8 hsb3 hkp3 hge' hfd
          rw [hln] at e3
          go_roundw
          case rel =>
            refine ⟨k + 1, g', cap', m' + 1, l' ++ [nb], by rw [hln], by go_num, by omega, Lib.hid ⟨by have := hm'.out.1; omega, ?_⟩, e3, hk3, hwk3, hw73, hz3⟩
            rw [hm'.out.2, List.range_succ, List.map_append, List.append_assoc, ← HNB.out]
            rfl
          case measure => simp [intOf]; omega
        · have hi0 : 7 - (k : Int) < 0 := by omega
          obtain ⟨gg, cc, hv, hge, hbr⟩ := SB.br hsb
          have hlf : l' = full s.data.toList := by
            have h8 : k = 8 := by omega
            subst h8
            rw [hm'.out.2, HM.out.2]; unfold full padL; simp
          have hml : m' = (full s.data.toList).length := by
            have : m' = l'.length := by injection hv
            rw [this, hlf]
          have hgg : gg = g := by injection hv with h1; injection h1 with h1; injection h1 with h1; exact h1.symm
          subst hgg
          rw [hlf] at hbr
          have hmm : m' ≤ 100300 := by rw [hm'.out.1]; omega
          have hmod : m' % 64 = 0 := by rw [hml]; exact full_mod _
          have HML := Lib.hid (And.intro hml hmod)
          clear hm' hsb hv hlf hml hmod
          generalize hlfe : full s.data.toList = lf at hbr HML
          have HLF := Lib.hid hlfe
          clear hlfe HM
          obtain ⟨zl, lz, hzl, hzz⟩ : ∃ (zl : Array Value) (lz : List (BitVec 32)), zl = wvs lz ∧ lz = List.replicate 64 0 := ⟨_, _, rfl, rfl⟩
          have hmk : ∀ w : World, (Instr.makeSlice 120 (.int .i64 64) (.int .i64 64)).run Tryd.prog w = .ok (.slice (some ⟨w.heap.size, 0, none⟩) 64 64) (w.alloc (.cells zl 110)) := fun _ => by rw [hzl, hzz]; kernel_rfl
          have h11 : WC (wr.alloc (.cells zl 110)) wr.heap.size lz := by
            have hr : Row (wr.alloc (.cells zl 110)) wr.heap.size 110 lz := by rw [hzl]; exact heap_alloc_new _ _
            exact ⟨hr.lt, fun j hj => ⟨hr.cell j hj, hr.frozen j⟩⟩
          have hlz : Hid (lz.length = 64) := Lib.hid (by rw [hzz]; simp)
          have hbr' := hbr.alloc (.cells zl 110)
          have hwk' := hwk.alloc (.cells zl 110)
          have hw7' := hw7.alloc (.cells zl 110)
          have hkp' := hkp.alloc hkp.size (.cells zl 110)
          have hg11 : gg < wr.heap.size := hbr.lt
          clear hzl hzz
          go_wp2_with fail
          clear hmk
          generalize wr.alloc (.cells zl 110) = wa at h11 hbr' hwk' hw7' hkp' ⊢
          generalize wr.heap.size = g11 at h11 hg11 ⊢
          clear hbr hwk hw7 hkp hB8
          go_loopw [12] (fun i wr => ∃ (n : Nat) (q : St) (lw : List (BitVec 32)), i = .int .i64 (64 * (n : Int)) ∧ 64 * n ≤ m' ∧ Hid (lw.length = 64 ∧ q = run (fun j => kl.getD j 0) (shaF s.data.toList) n st) ∧ WC wr g7 q.l ∧ WC wr g11 lw ∧ BR wr gg lf ∧ WC wr g2 kl ∧ Kp w.heap.size w wr) (fun i _ => m' - (intOf i).toNat)
          case atStart => exact ⟨0, st, _, rfl, by omega, Lib.hid ⟨hlz.out, rfl⟩, hw7', h11, hbr', hwk', hkp'⟩
          case round =>
            clear h11 hbr' hwk' hw7' hkp'
            obtain ⟨n, q, lw, rfl, hn, hq, h7, h11, hbr, hwk, hkp⟩ := hrel
            by_cases hlt : 64 * n < m'
            · have hlt' : 64 * (n : Int) < (m' : Int) := by omega
              have hgs : g7 < gg ∧ gg < g11 ∧ g2 < g7 := by omega
              obtain ⟨hs1, hs2, hs3⟩ := hgs
              have hlfm : lf.length = m' := HML.out.1.symm
              have HLFM := Lib.hid hlfm
              clear hlfm
              go_wp2_with fail
              go_loopw [13] (fun t wr => ∃ (j : Nat) (lw' : List (BitVec 32)), t = .int .i64 (j : Int) ∧ j ≤ 64 ∧ Hid (lw'.length = 64 ∧ ∀ x, x < j → lw'.getD x 0 = W (fun x => shaF s.data.toList (64 * n + x)) x) ∧ WC wr g7 q.l ∧ WC wr g11 lw' ∧ BR wr gg lf ∧ WC wr g2 kl ∧ Kp w.heap.size w wr) (fun t _ => 64 - (intOf t).toNat)
              case atStart => exact ⟨0, lw, rfl, by omega, Lib.hid ⟨hq.out.1, fun x hx => absurd hx (by omega)⟩, h7, h11, hbr, hwk, hkp⟩
              case round =>
                clear h7 h11 hbr hwk hkp
                obtain ⟨j, lw', rfl, hj64, hW, h7, h11, hbr, hwk, hkp⟩ := hrel
                by_cases hj : j < 64
                · by_cases hj16 : j < 16
                  · as_aux_lemma =>
                      obtain ⟨p, hp⟩ : ∃ p : Nat, p = 64 * n + 4 * j := ⟨_, rfl⟩
                      have hpe : 64 * (n : Int) + 4 * (j : Int) = (p : Int) := by omega
                      have hpm : p + 3 < m' := by have := HML.out.2; omega
                      have d0 := hbr.cell p (by rw [HLFM.out]; omega)
                      have d1 := hbr.cell (p + 1) (by rw [HLFM.out]; omega)
                      have d2 := hbr.cell (p + 2) (by rw [HLFM.out]; omega)
                      have d3 := hbr.cell (p + 3) (by rw [HLFM.out]; omega)
                      have hx : wb (lf.getD p 0) <<< 24 ||| wb (lf.getD (p + 1) 0) <<< 16 ||| wb (lf.getD (p + 2) 0) <<< 8 ||| wb (lf.getD (p + 3) 0) = W (fun x => shaF s.data.toList (64 * n + x)) j := by
                        rw [W_lo _ _ hj16]
                        unfold word shaF
                        rw [HLF.out, hp]
                        rfl
                      generalize lf.getD p 0 = b0 at d0 hx
                      generalize lf.getD (p + 1) 0 = b1 at d1 hx
                      generalize lf.getD (p + 2) 0 = b2 at d2 hx
                      generalize lf.getD (p + 3) 0 = b3 at d3 hx
                      have ST := Lib.hid (words_step (f := W (fun x => shaF s.data.toList (64 * n + x))) hW.out.1 hj hW.out.2 hx)
                      have hc := h11.cell j (by rw [hW.out.1]; exact hj)
                      have hfz := h11.frozen j (by rw [hW.out.1]; exact hj)
                      have HP := Lib.hid hp
                      clear hp hx
                      go_wp2
                      have v1 : IntKind.i64.wrap ((p : Int) + 1) = (p : Int) + 1 := IntWalk.i64_in _ (by omega)
                      have v2 : IntKind.i64.wrap ((p : Int) + 2) = (p : Int) + 2 := IntWalk.i64_in _ (by omega)
                      have v3 : IntKind.i64.wrap ((p : Int) + 3) = (p : Int) + 3 := IntWalk.i64_in _ (by omega)
                      have y0 : (p : Int) < (m' : Int) := by omega
                      have y1 : (p : Int) + 1 < (m' : Int) := by omega
                      have y2 : (p : Int) + 2 < (m' : Int) := by omega
                      have y3 : (p : Int) + 3 < (m' : Int) := by omega
                      have z0 : (0 : Int) ≤ (p : Int) := by omega
                      have z1 : (0 : Int) ≤ (p : Int) + 1 := by omega
                      have z2 : (0 : Int) ≤ (p : Int) + 2 := by omega
                      have z3 : (0 : Int) ≤ (p : Int) + 3 := by omega
                      have t1 : ((p : Int) + 1).toNat = p + 1 := by omega
                      have t2 : ((p : Int) + 2).toNat = p + 2 := by omega
                      have t3 : ((p : Int) + 3).toNat = p + 3 := by omega
                      have hk64 : (j : Int) < 64 := by omega
                      have hk0 : (0 : Int) ≤ (j : Int) := by omega
                      have n0 : p < m' := by omega
                      have n1 : p + 1 < m' := by omega
                      have n2 : p + 2 < m' := by omega
                      have n3 : p + 3 < m' := by omega
                      have f1 := u_wb
                      have f2 := u_shl24
                      have f3 := u_shl16
                      have f4 := u_shl8
                      have f5 := u_or
                      go_still_tail 32, (by kernel_rfl)
                      change wpList _ _ _ _ _ wr.drew
                      have hc' : wr.drew.cell? ⟨g11, j, none⟩ = some (.int .u32 (u (lw'.getD j 0))) := hc
                      have hf' : wr.drew.frozen? ⟨g11, j, none⟩ = false := hfz
                      have h7' := h7.drew
                      have h11' := h11.drew
                      have hbr' := hbr.drew
                      have hwk' := hwk.drew
                      have hkp' := hkp.drew
                      clear f1 f2 f3 f4 f5 hc hfz h7 h11 hbr hwk hkp v1 v2 v3 y0 y1 y2 y3 z0 z1 z2 z3 t1 t2 t3 d0 d1 d2 d3 n0 n1 n2 n3
                      generalize wr.drew = wq at hc' hf' h7' h11' hbr' hwk' hkp' ⊢
                      go_wp2
                      go_roundw
                      case rel => exact ⟨j + 1, _, by go_num, by omega, Lib.hid ST.out, h7'.far (by simp; omega) _, h11'.set j _, hbr'.far (by simp; omega) _, hwk'.far (by simp; omega) _, hkp'.setCell (by simp; omega) _⟩
                      case measure => simp [intOf]; omega
                  · as_aux_lemma =>
                      have hl64 := hW.out.1
                      have c15 := h11.cell (j - 15) (by omega)
                      have c2 := h11.cell (j - 2) (by omega)
                      have c16 := h11.cell (j - 16) (by omega)
                      have c7 := h11.cell (j - 7) (by omega)
                      have hc := h11.cell j (by omega)
                      have hfz := h11.frozen j (by omega)
                      rw [hW.out.2 _ (by omega)] at c15 c2 c16 c7
                      clear hl64
                      have hxx := W_hi (fun x => shaF s.data.toList (64 * n + x)) j (by omega)
                      generalize hx15 : W (fun x => shaF s.data.toList (64 * n + x)) (j - 15) = x15 at c15 hxx
                      generalize hx2 : W (fun x => shaF s.data.toList (64 * n + x)) (j - 2) = x2 at c2 hxx
                      generalize hx16 : W (fun x => shaF s.data.toList (64 * n + x)) (j - 16) = x16 at c16 hxx
                      generalize hx7 : W (fun x => shaF s.data.toList (64 * n + x)) (j - 7) = x7 at c7 hxx
                      have ST := Lib.hid (words_step (f := W (fun x => shaF s.data.toList (64 * n + x))) hW.out.1 hj hW.out.2 hxx.symm)
                      unfold lo0 lo1 at ST
                      clear hx15 hx2 hx16 hx7 hxx
                      have i15 : (0 : Int) ≤ (j : Int) - 15 := by omega
                      have i2 : (0 : Int) ≤ (j : Int) - 2 := by omega
                      have i16 : (0 : Int) ≤ (j : Int) - 16 := by omega
                      have i7 : (0 : Int) ≤ (j : Int) - 7 := by omega
                      have j15 : (j : Int) - 15 < 64 := by omega
                      have j2 : (j : Int) - 2 < 64 := by omega
                      have j16 : (j : Int) - 16 < 64 := by omega
                      have j7 : (j : Int) - 7 < 64 := by omega
                      have t15 : ((j : Int) - 15).toNat = j - 15 := by omega
                      have t2 : ((j : Int) - 2).toNat = j - 2 := by omega
                      have t16 : ((j : Int) - 16).toNat = j - 16 := by omega
                      have t7 : ((j : Int) - 7).toNat = j - 7 := by omega
                      go_wp2
                      have z16 : (16 : Int) ≤ (j : Int) := by omega
                      have z7 : (7 : Int) ≤ (j : Int) := by omega
                      have y16' : (j : Int) < 80 := by omega
                      have y7' : (j : Int) < 71 := by omega
                      have hk64 : (j : Int) < 64 := by omega
                      have hk0 : (0 : Int) ≤ (j : Int) := by omega
                      have w16 : IntKind.i64.wrap ((j : Int) - 16) = (j : Int) - 16 := IntWalk.i64_in _ (by omega)
                      have w7 : IntKind.i64.wrap ((j : Int) - 7) = (j : Int) - 7 := IntWalk.i64_in _ (by omega)
                      have f1 := u_xor
                      have f2 := u_shr3
                      have f3 := u_shr10
                      have f4 := u_add
                      clear c15 c2
                      go_region_held3 (fun w' => w'.cell? ⟨g11, j - 16, none⟩ = some (.int .u32 (u x16)) ∧ w'.cell? ⟨g11, j - 7, none⟩ = some (.int .u32 (u x7))) (first | exact ⟨c16, c7⟩ | exact ⟨(World.cell?_setCell_other _ _ _ _ (by intro he; injection he; omega)).trans c16, (World.cell?_setCell_other _ _ _ _ (by intro he; injection he; omega)).trans c7⟩ | go_keep) (first | (go_at_call 90; (first | (with_reducible refine (turn7 _ _).mono ?_) | (with_reducible refine (turn18 _ _).mono ?_) | (with_reducible refine (turn17 _ _).mono ?_) | (with_reducible refine (turn19 _ _).mono ?_)); rintro e w' ⟨rfl, mm, rfl⟩))
                      clear f1 f2 f3 f4 w16 w7 t15 t2 t16 t7 i15 i2 i16 i7 j15 j2 j16 j7 z16 z7 y16' y7' c16 c7 hc hfz
                      go_wp2
                      go_roundw
                      case rel => exact ⟨j + 1, _, by go_num, by omega, Lib.hid ST.out, WC.far (w := World.drewN wr _) h7 (by simp; omega) _, WC.set (w := World.drewN wr _) h11 j _, BR.far (w := World.drewN wr _) hbr (by simp; omega) _, WC.far (w := World.drewN wr _) hwk (by simp; omega) _, Kp.setCell (w := World.drewN wr _) ⟨hkp.os, hkp.tape, hkp.output, hkp.size, hkp.block⟩ (by simp; omega) _⟩
                      case measure => simp [intOf]; omega
                · have HW : Hid (lw'.length = 64 ∧ ∀ x, x < 64 → lw'.getD x 0 = W (fun x => shaF s.data.toList (64 * n + x)) x) := Lib.hid ⟨hW.out.1, fun x hx => hW.out.2 x (by omega)⟩
                  clear hW
                  obtain ⟨c0, c1', c2', c3, c4, c5, c6, c7⟩ := St.eightW h7
                  go_wp2_with fail
                  go_quiet (fail)
                  clear c0 c1' c2' c3 c4 c5 c6 c7
                  go_wp2_with fail
                  have h7n : ∀ nq, WC (wr.drewN nq) g7 q.l := fun _ => h7
                  have h11n : ∀ nq, WC (wr.drewN nq) g11 lw' := fun _ => h11
                  have hbrn : ∀ nq, BR (wr.drewN nq) gg lf := fun _ => hbr
                  have hwkn : ∀ nq, WC (wr.drewN nq) g2 kl := fun _ => hwk
                  have hkpn : ∀ nq, Kp w.heap.size w (wr.drewN nq) := fun nq => hkp.drewN nq
                  have HN := Lib.hid (And.intro h7n (And.intro h11n (And.intro hbrn (And.intro hwkn hkpn))))
                  clear h7n h11n hbrn hwkn hkpn h7 h11 hbr hwk hkp
                  go_loopw [17, 18, 19, 20, 21, 22, 23, 24, 25] (fun a b c d e f g h i w5 => ∃ (x : Nat) (r : St), x ≤ 64 ∧ i = .int .i64 (x : Int) ∧ a = .int .u32 (u r.a) ∧ b = .int .u32 (u r.b) ∧ c = .int .u32 (u r.c) ∧ d = .int .u32 (u r.d) ∧ e = .int .u32 (u r.e) ∧ f = .int .u32 (u r.f) ∧ g = .int .u32 (u r.g) ∧ h = .int .u32 (u r.h) ∧ Hid (r = rnds (fun j => kl.getD j 0) (fun x => shaF s.data.toList (64 * n + x)) x q) ∧ WC w5 g7 q.l ∧ WC w5 g11 lw' ∧ BR w5 gg lf ∧ WC w5 g2 kl ∧ Kp w.heap.size w w5) (fun _ _ _ _ _ _ _ _ i _ => 64 - (intOf i).toNat)
                  case atStart => exact ⟨0, q, by omega, rfl, rfl, rfl, rfl, rfl, rfl, rfl, rfl, rfl, Lib.hid rfl, HN.out.1 _, HN.out.2.1 _, HN.out.2.2.1 _, HN.out.2.2.2.1 _, HN.out.2.2.2.2 _⟩
                  case round =>
                    clear HN
                    obtain ⟨x, ⟨ra, rb, rc, rd, re, rf, rg, rh⟩, hx64, rfl, rfl, rfl, rfl, rfl, rfl, rfl, rfl, rfl, hr, h7, h11, hbr, hwk, hkp⟩ := hrel
                    dsimp only
                    by_cases hx : x < 64
                    · have ck := hwk.cell x (by rw [HKL.out]; exact hx)
                      have cw := h11.cell x (by rw [HW.out.1]; exact hx)
                      rw [HW.out.2 x hx] at cw
                      generalize hxw : W (fun x => shaF s.data.toList (64 * n + x)) x = xw at cw
                      have HXW := Lib.hid hxw
                      clear hxw
                      generalize hkw : kl.getD x 0 = kw at ck
                      have HKW := Lib.hid hkw
                      clear hkw
                      have hx0 : (0 : Int) ≤ (x : Int) := by omega
                      have hx1 : (x : Int) < 64 := by omega
                      have f1 := u_xor
                      have f2 := u_and
                      have f3 := u_or
                      have f4 := u_add
                      have f5 := u_notw
                      have f6 := u_add'
                      go_wp2_with fail
                      go_quiet ((go_at_call 90; exact Calls.quiet_of (turn_int _ _ (by decide) (by decide) _)))
                      go_wp2_with (go_at_call 90; refine (turn_int _ _ (by decide) (by decide) _).mono ?_; rintro e w' ⟨rfl, mm, rfl⟩)
                      go_roundw
                      case rel =>
                        refine ⟨x + 1, rnd kw xw ⟨ra, rb, rc, rd, re, rf, rg, rh⟩, by omega, by go_num, ?_, rfl, rfl, rfl, ?_, rfl, rfl, rfl, Lib.hid ?_, h7, h11, hbr, hwk, ⟨hkp.os, hkp.tape, hkp.output, hkp.size, hkp.block⟩⟩
                        · exact congrArg (fun v => Value.int .u32 (u v)) (by rw [ch_or, maj_or]; rfl)
                        · exact congrArg (fun v => Value.int .u32 (u v)) (by rw [ch_or]; rfl)
                        · rw [rnds, ← hr.out, HXW.out, HKW.out]
                      case measure => simp [intOf]; omega
                    · have HR : Hid ((⟨ra, rb, rc, rd, re, rf, rg, rh⟩ : St) = rnds (fun j => kl.getD j 0) (fun x => shaF s.data.toList (64 * n + x)) 64 q) := Lib.hid (hr.out.trans (by rw [show x = 64 by omega]))
                      clear hr
                      have h28 : WC (wr.alloc (.cells (wvs (⟨ra, rb, rc, rd, re, rf, rg, rh⟩ : St).l) 110)) wr.heap.size (⟨ra, rb, rc, rd, re, rf, rg, rh⟩ : St).l := by
                        have hrow : Row (wr.alloc (.cells (wvs (⟨ra, rb, rc, rd, re, rf, rg, rh⟩ : St).l) 110)) wr.heap.size 110 (⟨ra, rb, rc, rd, re, rf, rg, rh⟩ : St).l := heap_alloc_new _ _
                        exact ⟨hrow.lt, fun j hj => ⟨hrow.cell j hj, hrow.frozen j⟩⟩
                      have h7a := h7.alloc (.cells (wvs (⟨ra, rb, rc, rd, re, rf, rg, rh⟩ : St).l) 110)
                      have h11a := h11.alloc (.cells (wvs (⟨ra, rb, rc, rd, re, rf, rg, rh⟩ : St).l) 110)
                      have hbra := hbr.alloc (.cells (wvs (⟨ra, rb, rc, rd, re, rf, rg, rh⟩ : St).l) 110)
                      have hwka := hwk.alloc (.cells (wvs (⟨ra, rb, rc, rd, re, rf, rg, rh⟩ : St).l) 110)
                      have hkpa := hkp.alloc hkp.size (.cells (wvs (⟨ra, rb, rc, rd, re, rf, rg, rh⟩ : St).l) 110)
                      have q7 := h7.lt
                      have q11 := h11.lt
                      have qk := hwk.lt
                      have qb := hbr.lt
                      go_wp2_with fail
                      clear h7 h11 hbr hwk hkp
                      change Code.wp _ _ _ _ (wr.alloc (.cells (wvs (⟨ra, rb, rc, rd, re, rf, rg, rh⟩ : St).l) 110))
                      generalize hrr : (⟨ra, rb, rc, rd, re, rf, rg, rh⟩ : St) = rr at h28 h7a h11a hbra hwka hkpa HR ⊢
                      generalize wr.alloc (.cells (wvs rr.l) 110) = wb at h28 h7a h11a hbra hwka hkpa ⊢
                      generalize wr.heap.size = g28 at h28 q7 q11 qk qb ⊢
                      clear hrr
                      go_loopw [29] (fun i w6 => ∃ (k : Nat) (l7 : List (BitVec 32)), k ≤ 8 ∧ i = .int .i64 (k : Int) ∧ Hid (addK q rr k l7) ∧ WC w6 g7 l7 ∧ WC w6 g28 rr.l ∧ WC w6 g11 lw' ∧ BR w6 gg lf ∧ WC w6 g2 kl ∧ Kp w.heap.size w w6) (fun i _ => 8 - (intOf i).toNat)
                      case atStart => exact ⟨0, q.l, by omega, rfl, Lib.hid (addK_zero q rr), h7a, h28, h11a, hbra, hwka, hkpa⟩
                      case round =>
                        clear h7a h28 h11a hbra hwka hkpa
                        obtain ⟨k, l7, hk, rfl, hl7, h7, h28, h11, hbr, hwk, hkp⟩ := hrel
                        by_cases hk8 : k < 8
                        · have ST := Lib.hid (addK_step hl7.out hk8)
                          have d7 := h7.cell k (by rw [hl7.out.1]; exact hk8)
                          have e7 := h7.frozen k (by rw [hl7.out.1]; exact hk8)
                          have d28 := h28.cell k (by simpa [St.l] using hk8)
                          generalize l7.getD k 0 = y at d7 ST
                          generalize rr.l.getD k 0 = zz at d28 ST
                          have k0 : (0 : Int) ≤ (k : Int) := by omega
                          have k1 : (k : Int) < 8 := by omega
                          have f4 := u_add
                          go_wp2_with fail
                          go_still_tail 12, (by kernel_rfl)
                          change wpList _ _ _ _ _ wr.drew
                          have d7' : wr.drew.cell? ⟨g7, k, none⟩ = some (.int .u32 (u y)) := d7
                          have e7' : wr.drew.frozen? ⟨g7, k, none⟩ = false := e7
                          have h7' := h7.drew
                          have h28' := h28.drew
                          have h11' := h11.drew
                          have hbr' := hbr.drew
                          have hwk' := hwk.drew
                          have hkp' := hkp.drew
                          clear f4 d7 e7 d28 h7 h28 h11 hbr hwk hkp
                          generalize wr.drew = wq at d7' e7' h7' h28' h11' hbr' hwk' hkp' ⊢
                          go_wp2
                          go_roundw
                          case rel => exact ⟨k + 1, _, by omega, by go_num, Lib.hid ST.out, h7'.set k _, h28'.far (by simp; omega) _, h11'.far (by simp; omega) _, hbr'.far (by simp; omega) _, hwk'.far (by simp; omega) _, hkp'.setCell (by simp; omega) _⟩
                          case measure => simp [intOf]; omega
                        · have hl8 : l7 = (q.add rr).l := addK_end ((show k = 8 by omega) ▸ hl7.out)
                          rw [hl8] at h7
                          clear hl8 hl7
                          go_wp2
                          go_roundw
                          case rel =>
                            have hmd := HML.out.2
                            refine ⟨n + 1, q.add rr, lw', by go_num, by omega, Lib.hid ⟨HW.out.1, ?_⟩, h7, h11, hbr, hwk, hkp⟩
                            rw [run, ← hq.out.2, HR.out]
                            rfl
                          case measure => simp [intOf]; omega
            · have hnn : 64 * n = m' := by omega
              have HN := Lib.hid hnn
              clear hnn
              have hz := hkp.size
              have hg7r : g7 < wr.heap.size := h7.lt
              go_wp2_with fail
              obtain ⟨BB, hBB⟩ : ∃ BB, BB = wr.heap.size := ⟨_, rfl⟩
              rw [← hBB] at hz hg7r
              have hBw : BB ≤ wr.heap.size := by omega
              clear hBB
              go_loopw [30, 31] (fun v i w5 => ∃ (k : Nat) (l : List UInt8), k ≤ 8 ∧ i = .int .i64 (k : Int) ∧ Hid (l.length = 4 * k ∧ ∀ j, j < 4 * k → l.getD j 0 = stByte q j) ∧ w5.ownsRow BB 5 1 v l.length (l.map bv) ∧ WC w5 g7 q.l ∧ Kp w.heap.size w w5 ∧ BB ≤ w5.heap.size) (fun _ i _ => 8 - (intOf i).toNat)
              case atStart => exact ⟨0, [], by omega, rfl, Lib.hid ⟨rfl, fun j hj => absurd hj (by omega)⟩, World.ownsRow_nil _ _ _ _, h7, hkp, hBw⟩
              case round =>
                clear h7 h11 hbr hwk hkp hBw
                obtain ⟨k, l, hk, rfl, hl, hown, h7, hkp, hBw⟩ := hrel
                by_cases hlt : k < 8
                · as_aux_lemma =>
                    have hc := h7.cell k (by simpa [St.l] using hlt)
                    generalize hx : q.l.getD k 0 = x at hc
                    have HX := Lib.hid hx
                    clear hx
                    have hk0 : (0 : Int) ≤ (k : Int) := by omega
                    have hk8 : (k : Int) < 8 := by omega
                    have hl1 : l.length + 4 ≤ 100000000 := by rw [hl.out.1]; omega
                    have e0 : IntKind.u8.wrap (u x / (16777216 : Int)) = ((wbyte x 0).toNat : Int) := by rw [IntKind.wrap_u8']; exact u_b0 x
                    have e1 : IntKind.u8.wrap (u x / (65536 : Int)) = ((wbyte x 1).toNat : Int) := by rw [IntKind.wrap_u8']; exact u_b1 x
                    have e2 : IntKind.u8.wrap (u x / (256 : Int)) = ((wbyte x 2).toNat : Int) := by rw [IntKind.wrap_u8']; exact u_b2 x
                    have e3 : IntKind.u8.wrap (u x) = ((wbyte x 3).toNat : Int) := by rw [IntKind.wrap_u8']; exact u_b3 x
                    have HB : Hid (wbyte x 0 = stByte q (4 * k) ∧ wbyte x 1 = stByte q (4 * k + 1) ∧ wbyte x 2 = stByte q (4 * k + 2) ∧ wbyte x 3 = stByte q (4 * k + 3)) := Lib.hid (by
                      unfold stByte
                      rw [show 4 * k / 4 = k by omega, show (4 * k + 1) / 4 = k by omega, show (4 * k + 2) / 4 = k by omega, show (4 * k + 3) / 4 = k by omega, show 4 * k % 4 = 0 by omega, show (4 * k + 1) % 4 = 1 by omega, show (4 * k + 2) % 4 = 2 by omega, show (4 * k + 3) % 4 = 3 by omega, HX.out]
                      exact ⟨rfl, rfl, rfl, rfl⟩)
                    generalize wbyte x 0 = y0 at e0 HB
                    generalize wbyte x 1 = y1 at e1 HB
                    generalize wbyte x 2 = y2 at e2 HB
                    generalize wbyte x 3 = y3 at e3 HB
                    go_wp2_with fail
                    go_region_held3 (fun w' => w'.cell? ⟨g7, k, none⟩ = some (.int .u32 (u x))) (first | exact hc | exact (WC.alloc (w := wr.drew) h7 _).cell7 k (by simpa [St.l] using hlt) HX | go_keep | (exact h76c)) ((refine step_bytes (by rfl) (.tmp 270) (.tmp 294) (by rfl) BB u30 l (by rfl) (World.ownsRow.alloc (w := wr.drew) hown _) wr.heap.size [y0, y1, y2, y3] 4 (by rfl) (by rfl) (heap_alloc_new wr.drew _) (by omega) (by simp; omega) ?_; intro v' w6 hown6 hgr6; have h76 : WC w6 g7 q.l := (WC.alloc (w := wr.drew) h7 _).of_block hgr6.size (hgr6.block g7 (by simp; have := h7.lt; omega) (fun he => by have := (hown.lt g7 he.symm).1; omega)); have h76c := h76.cell7 k (by simpa [St.l] using hlt) HX))
                    all_goals
                      have hkp6 : Kp w.heap.size w w6 := (hkp.drew.alloc hkp.size _).trans (Below.kp ((Below.refl _ _).grown hgr6 (by simp; omega) (fun k hk => by have := (hown.lt k hk).1; omega)))
                      have hB6 : BB ≤ w6.heap.size := by have := hgr6.size; simp at this; omega
                      clear hgr6 hown h7 hkp hBw e0 e1 e2 e3 hc h76c
                      go_wp2
                      go_roundw
                      case rel =>
                        refine ⟨k + 1, l ++ [y0, y1, y2, y3], by omega, by go_num, Lib.hid ⟨by rw [List.length_append, hl.out.1]; simp; omega, fun j hj => ?_⟩, hown6, h76, hkp6, hB6⟩
                        have hb := HB.out
                        by_cases hj4 : j < 4 * k
                        · rw [getD_app_l _ _ _ (by rw [hl.out.1]; exact hj4)]; exact hl.out.2 j hj4
                        · rw [getD_app_r _ _ _ (by rw [hl.out.1]; omega), hl.out.1]
                          rcases (show j = 4 * k ∨ j = 4 * k + 1 ∨ j = 4 * k + 2 ∨ j = 4 * k + 3 by omega) with h | h | h | h
                          · subst h; rw [Nat.sub_self]; exact hb.1
                          · subst h; rw [show 4 * k + 1 - 4 * k = 1 by omega]; exact hb.2.1
                          · subst h; rw [show 4 * k + 2 - 4 * k = 2 by omega]; exact hb.2.2.1
                          · subst h; rw [show 4 * k + 3 - 4 * k = 3 by omega]; exact hb.2.2.2
                      case measure => simp [intOf]; omega
                · have hcv := conv_own hown
                  go_wp2
                  go_ret
                  refine ⟨?_, hkp⟩
                  have hl2 := hl.out
                  have h8 : k = 8 := by omega
                  rw [h8] at hl2
                  rw [blist_of_getD l 32 (stByte q) hl2.1 hl2.2]
                  have e : q = shaG (fun j => kl.getD j 0) st s.data.toList := by
                    unfold shaG
                    rw [hq.out.2, HLF.out, ← HML.out.1, show m' / 64 = n by have := HN.out; omega]
                  rw [e]
                  rfl
end Go.Proofs.YtfjlkphpeneahaaDoor.S1
