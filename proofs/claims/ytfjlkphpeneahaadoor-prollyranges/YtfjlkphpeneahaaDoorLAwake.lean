/- The walk of the law's awake: a tree of two keys. -/
import Derived.Test.YtfjlkphpeneahaaDoorTBuild
import Derived.Test.YtfjlkphpeneahaaDoorTFind
import Derived.Test.YtfjlkphpeneahaaDoorM7
namespace Go.Proofs.YtfjlkphpeneahaaDoor
open Go Go.RowKit

theorem Hp.toM {w : World} {h base : Nat} {l : Tx} (H : Hp w h base l) : ∃ m, HpM h m l w := by
  obtain ⟨m, h1, h2, h3, h4⟩ := H
  exact ⟨m, h1, h2, fun b hb => (h4 b hb).2⟩
/-- All pairs of a tree, as a list. -/
theorem listAll_any {h : Nat} {mm : Option Nat} {lx : Tx} (hs : Small lx) (root : Bs) (hroot : root.length ≤ 1000000) (hn : (leavesP lx root []).flatten.length ≤ 1000000) (n0 b : Nat) (w : World) (hb : n0 + 3 ≤ b) (hnw : ∀ k, KH h mm k → k < w.heap.size)
    (hG : PairsG b (leavesRun n0) (LeavesG n0 h mm lx root []) w) :
    Calls Tryd.prog 21 #[.func (.func 77) #[] #[.pointer (some ⟨b, 0, none⟩)]] w fun e w' => ∃ v, e = .returned v ∧ OwP w' w.heap.size 52 v (leavesP lx root []).flatten ∧ Below w.heap.size w w' := by
  have hit := pairs_iter (gf := 78) (lb := #[.pointer (some ⟨n0, 0, none⟩), .pointer (some ⟨n0 + 1, 0, none⟩), .pointer (some ⟨n0 + 2, 0, none⟩)]) (fun _ _ => by kernel_rfl) (leaves_iter n0 h mm hs root [] hroot) (LeavesG.stab n0 h mm lx root []) b
  refine list_any (fun _ _ => by kernel_rfl) hit hn w ?_ ?_ hG
  · rintro k (rfl | rfl | rfl | rfl | hk)
    · exact hG.1.lt
    · exact hG.2.1.lt
    · exact hG.2.2.1.lt
    · exact hG.2.2.2.1.lt
    · exact hnw k hk
  · intro A B H hc
    exact ⟨hc.boxed H.1 (fun e => e (.inl rfl)), LeavesG.stab n0 h mm lx root [] A B H.2 (hc.mono fun _ _ e hk => e (.inr hk))⟩
def awL : List It := [([97], [49]), ([98], [50])]
theorem aw_parts : partsOf awL = [awL] := by
  unfold partsOf
  have h1 : (cutG E 0 (awL.map itemL)).sum = 2 := cut_sum awL
  have h2 := cutG_two E (awL.map itemL) 0
  have h3 := cutG_mem E (awL.map itemL) 0 (by omega)
  generalize cutG E 0 (awL.map itemL) = es at *
  match es, h1, h2, h3 with
  | [], h1, _, _ => simp at h1
  | [p], h1, _, _ =>
    have : p = 2 := by simpa using h1
    subst this; rfl
  | p :: q :: r, h1, h2, h3 =>
    have e1 := h2 0 (by simp)
    have e2 := h3 q (by simp)
    simp only [List.getD_cons_zero, List.sum_cons] at e1 h1
    omega
theorem aw_map : mapOk awL = true := by decide
theorem aw_tree : buildL awL = (sha (nodeL 0 awL), [nodeL 0 awL]) := by
  unfold buildL
  rw [if_pos aw_map]
  unfold treeL
  rw [if_neg (by decide)]
  show treeG 2 0 awL [] = _
  unfold treeG
  have hu : upsL 0 awL = [upI 0 awL] := by unfold upsL; rw [aw_parts]; rfl
  have hl : levelL 0 awL = [nodeL 0 awL] := by unfold levelL; rw [aw_parts]; rfl
  rw [hu, hl, if_pos (show ([upI 0 awL] : List It).length = 1 from rfl)]
  have hp : prn (upI 0 awL) = sha (nodeL 0 awL) := by
    unfold prn upI
    rw [List.take_append_of_le_length (Nat.le_of_eq (sha_len _).symm), List.take_of_length_le (Nat.le_of_eq (sha_len _))]
  rw [show itD [upI 0 awL] 0 = upI 0 awL from rfl, hp, List.nil_append]
theorem at_one (t : Bs) : at_ (putAll [] [t]) (sha t) = some t := by
  have h : putAll [] [t] = [(sha t, t)] := rfl
  rw [h]
  generalize sha t = r
  show D4.look r [(r, t)] = some t
  unfold D4.look
  rw [if_pos rfl]
theorem root_one (t : Bs) : rootP (putAll [] [t]) (sha t) = parseL t := by
  unfold rootP
  rw [at_one, Option.bind_some]
theorem aw_root : rootP (putAll [] [nodeL 0 awL]) (sha (nodeL 0 awL)) = some (0, awL) := by
  rw [root_one]
  have hr : rightL 0 awL = true := by unfold rightL; rw [aw_map]; rfl
  exact parse_node (by omega) (by decide) hr
theorem find_zero {lx : Tx} {r : Bs} (h : rootP lx r = some (0, awL)) : findP lx r [98] = some (some [50]) := by
  unfold findP
  rw [h, Option.bind_some]
  show findG lx [98] 0 awL = _
  unfold findG
  have h : fromL [98] awL = [([98], [50])] := by decide
  rw [h]
  dsimp only
  rw [if_pos rfl]
theorem leaves_zero {lx : Tx} {r : Bs} (h : rootP lx r = some (0, awL)) : leavesP lx r [] = [awL] := by
  unfold leavesP
  rw [h]
  show (walkG lx [] 0 awL).1 = _
  unfold walkG
  rfl
theorem aw_find : findP (putAll [] [nodeL 0 awL]) (sha (nodeL 0 awL)) [98] = some (some [50]) := find_zero aw_root
theorem aw_leaves : leavesP (putAll [] [nodeL 0 awL]) (sha (nodeL 0 awL)) [] = [awL] := leaves_zero aw_root
set_option maxRecDepth 100000 in
set_option maxHeartbeats 4000000 in
theorem awake_any {w : World} (hK : S1.KR w) : Calls Tryd.prog 9 #[] w fun e w' => e = .returned (.bool true) ∧ Below w.heap.size w w' := by
  obtain ⟨W1, hW1⟩ : ∃ W1, W1 = w.alloc (.cells #[.string ⟨#[97]⟩, .string ⟨#[49]⟩, .string ⟨#[98]⟩, .string ⟨#[50]⟩] 52) := ⟨_, rfl⟩
  have hb1 : Below w.heap.size w W1 := by rw [hW1]; exact (Below.refl _ _).alloc (Nat.le_refl _) _
  have hr1 : W1.heap[w.heap.size]? = some (.cells #[.string ⟨#[97]⟩, .string ⟨#[49]⟩, .string ⟨#[98]⟩, .string ⟨#[50]⟩] 52 (0, 0)) := by rw [hW1]; exact heap_alloc_new w _
  have hRD : RdP W1 (some ⟨w.heap.size, 0, none⟩) awL := fun i hi => by
    have h2 : i < 2 := hi
    refine ⟨_, _, rfl, ?_, ?_⟩
    · rcases (show i = 0 ∨ i = 1 by omega) with rfl | rfl
      · exact cell_of_row _ _ 0 _ _ _ hr1
      · exact cell_of_row _ _ 2 _ _ _ hr1
    · rcases (show i = 0 ∨ i = 1 by omega) with rfl | rfl
      · exact cell_of_row _ _ 1 _ _ _ hr1
      · exact cell_of_row _ _ 3 _ _ _ hr1
  have hK1 := hK.step hb1
  have P12' := build_any hK1 hRD (c := 2) (Nat.le_refl _) (by decide) (by decide)
  rw [aw_tree, aw_map] at P12'
  have P12 : Hid (Calls Tryd.prog 12 #[.slice (some ⟨w.heap.size, 0, none⟩) 2 2] W1 fun e w' => ∃ v, e = .returned (.tuple #[.string (txt (sha (nodeL 0 awL))), v, .bool true]) ∧ OwT w' W1.heap.size v [nodeL 0 awL] ∧ Below W1.heap.size W1 w') := Lib.hid P12'
  clear P12'
  have hlN : (nodeL 0 awL).length ≤ 100000 := by decide
  have hf := aw_find
  have hlv := aw_leaves
  have hsm : Small (putAll [] [nodeL 0 awL]) := fun q hq => by
    have h : putAll [] [nodeL 0 awL] = [(sha (nodeL 0 awL), nodeL 0 awL)] := rfl
    rw [h, List.mem_singleton] at hq
    rw [hq]; exact hlN
  have hsh := sha_len (nodeL 0 awL)
  have P20 : Hid (∀ V a c, S1.KR V → RdT V a [nodeL 0 awL] → Calls Tryd.prog 20 #[.slice a 1 c] V fun e w' => e = .returned (.pointer (some ⟨V.heap.size, 0, none⟩)) ∧ Hp w' V.heap.size V.heap.size (putAll [] [nodeL 0 awL]) ∧ Below V.heap.size V w') := Lib.hid fun V a c hKV hRV =>
    newHeap_any hKV hRV (by simp) (fun x hx => by rw [List.mem_singleton] at hx; rw [hx]; exact hlN)
  generalize hlx : putAll [] [nodeL 0 awL] = lx at *
  generalize hNN : nodeL 0 awL = N at *
  generalize hrr : sha N = r at *
  have P24 : Hid (∀ V h base, Hp V h base lx → Calls Tryd.prog 24 #[.iface 40 (.pointer (some ⟨h, 0, none⟩)), .string (txt r), .string ⟨#[98]⟩] V fun e w' => e = .returned (.tuple #[.string ⟨#[50]⟩, .bool true, .int .i64 0]) ∧ Below V.heap.size V w') := Lib.hid fun V h base H => by
    have h1 := find_any H hsm r [98] (by omega)
    rw [hf] at h1
    exact h1
  have P25 : Hid (∀ V h mm, HpM h mm lx V → Calls Tryd.prog 25 #[.iface 40 (.pointer (some ⟨h, 0, none⟩)), .string (txt r)] V fun e w' => ∃ b, e = .returned (.func (.func 77) #[] #[.pointer (some ⟨b, 0, none⟩)]) ∧ PairsG b (leavesRun V.heap.size) (LeavesG V.heap.size h mm lx r []) w' ∧ V.heap.size + 3 ≤ b ∧ Below V.heap.size V w') := Lib.hid fun V h mm H => all_any r V H
  have P21 : Hid (∀ n0 b h mm V, n0 + 3 ≤ b → (∀ k, KH h mm k → k < V.heap.size) → PairsG b (leavesRun n0) (LeavesG n0 h mm lx r []) V → Calls Tryd.prog 21 #[.func (.func 77) #[] #[.pointer (some ⟨b, 0, none⟩)]] V fun e w' => ∃ a c, e = .returned (.slice a 2 c) ∧ Below V.heap.size V w') := Lib.hid fun n0 b h mm V h1 h2 h3 => by
    have h4 := listAll_any hsm r (by omega) (by rw [hlv]; decide) n0 b V h1 h2 h3
    rw [hlv] at h4
    refine h4.mono ?_
    rintro e w' ⟨v, rfl, ho, hb⟩
    obtain ⟨a, c, hv, _⟩ := ho.rd
    exact ⟨a, c, by rw [hv]; rfl, hb⟩
  have HK1 := Lib.hid (And.intro hK1 hb1)
  clear hK hK1 hf hlv hsm hsh hlx hNN hrr hlN hRD hr1 hb1
  generalize txt r = tr at *
  subst hW1
  go_enter Tryd.func9, Tryd.ntmps9
  go_wp2_with (first
    | (go_at_call 12; (with_reducible refine P12.out.mono ?_); rintro e w2 ⟨v, rfl, hO, hb2⟩; obtain ⟨a1, c1, rfl, hrd, -⟩ := hO.rd; have hk2 := HK1.out.1.step hb2)
    | (go_at_call 20; (with_reducible refine (P20.out _ a1 c1 hk2 hrd).mono ?_); rintro e w3 ⟨rfl, hH, hb3⟩)
    | (go_at_call 24; (with_reducible refine (P24.out _ _ _ hH).mono ?_); rintro e w4 ⟨rfl, hb4⟩; obtain ⟨m4, hM4⟩ := (hH.new hb4).toM)
    | (go_at_call 25; (with_reducible refine (P25.out _ _ _ hM4).mono ?_); rintro e w5 ⟨b, rfl, hP, hb, hb5⟩)
    | (go_at_call 21; (with_reducible refine (P21.out _ b _ m4 _ hb (fun k hk => Nat.lt_of_lt_of_le (hM4.lt k hk) hb5.size) hP).mono ?_); rintro e w6 ⟨a2, c2, rfl, hb6⟩))
  go_ret
  have q2 := HK1.out.2
  have q3 := q2.trans (hb2.mono q2.size)
  have q4 := q3.trans (hb3.mono q3.size)
  have q5 := q4.trans (hb4.mono q4.size)
  have q6 := q5.trans (hb5.mono q5.size)
  exact ⟨rfl, q6.trans (hb6.mono q6.size)⟩
end Go.Proofs.YtfjlkphpeneahaaDoor
