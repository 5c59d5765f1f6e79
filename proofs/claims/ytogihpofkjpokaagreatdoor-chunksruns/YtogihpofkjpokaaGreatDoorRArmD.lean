/- Arms of the loop of runs. -/
import Derived.Test.YtogihpofkjpokaaGreatDoorRBody
import Derived.Deep.RegionHeld3
import Derived.BigRegion
namespace Go.Proofs.YtogihpofkjpokaaGreatDoor
open Go Go.RowKit Go.Maps
open D4 (put Asc Lg Dk dp More RdI)
open F5 (txt txt_size data_txt RdT OwT)
attribute [-go_sem] Builtin.append_

set_option maxRecDepth 100000 in
set_option maxHeartbeats 16000000 in
theorem arm_COLLECT_UP_T {w wr : World} {a0 : Option Addr} {c : Nat} {xs : List Xa} {rm : Int} {d bw bm sb0 : Nat} (HR : Hid (RdA w a0 xs ∧ 0 < w.heap.size ∧ (Fine xs → rmA xs ≤ 2100 * xs.length))) (HRM : Hid (((2000 + rmA xs : Nat) : Int) = rm)) (HF : Hid (Fine xs)) (hx40 : (xs.length : Int) ≤ 40) (K : Act → World → Prop) {u2 u12 u13 u14 u15 u16 u17 u18 u19 u20 u21 u22 u47 u48 u49 u50 u51 u52 u53 u54 u55 u56 u57 u58 u59 u60 u61 u62 u63 u64 u65 u66 u67 u68 u69 u70 u71 u72 u73 u74 u75 u76 u77 u78 u79 u80 u81 u82 u83 u84 u85 u86 u87 u88 u89 u90 u91 u92 u93 u94 u95 u96 u97 u98 u99 u100 u101 u102 u103 u104 u105 u106 u107 u108 u109 u110 u111 u112 u113 u114 u115 u116 u117 u118 u119 u120 u121 u122 u123 u124 u125 u126 u127 u128 u129 u130 u131 u132 u133 u134 u135 u136 u137 u138 u139 u140 u141 u142 u143 u144 u145 u146 u147 u148 u149 u150 u151 u152 u153 u154 u155 u156 u157 u158 u159 u160 u161 u162 u163 u164 u165 u166 u167 u168 u169 u170 u171 u172 u173 u174 u175 u176 u177 u178 u179 u180 u181 u182 u183 u184 u185 u186 u187 u188 u189 u190 u191 u192 u193 u194 u195 u196 u197 u198 u199 u200 u201 u202 u203 u204 u205 u206 u207 u208 u209 u210 u211 u212 u213 u214 u215 u216 u217 u218 u219 u220 u221 u222 u223 u224 : Value} {ii sb : Nat} {a : Ab} {l : Lg} {s m : DS} {Q : Nat → Prop} (HI : Hid (RR w wr (texts xs) bw bm sb d a l s m Q (13 + bsA (xs.take ii)) ii rm)) (hlt : ii < xs.length) (hcase : xs[ii].ac.what = 3) (hdn : a.down = false) (hraw : xs[ii].ac.raw = true) :
    Code.wp Tryz.prog runsBody (Exit.then (fun a' w' => (∃ u2 u7 u12 u13 u14 u15 u16 u17 u18 u19 u20 u21 u22 u46 u47 u48 u49 u50 u51 u52 u53 u54 u55 u56 u57 u58 u59 u60 u61 u62 u63 u64 u65 u66 u67 u68 u69 u70 u71 u72 u73 u74 u75 u76 u77 u78 u79 u80 u81 u82 u83 u84 u85 u86 u87 u88 u89 u90 u91 u92 u93 u94 u95 u96 u97 u98 u99 u100 u101 u102 u103 u104 u105 u106 u107 u108 u109 u110 u111 u112 u113 u114 u115 u116 u117 u118 u119 u120 u121 u122 u123 u124 u125 u126 u127 u128 u129 u130 u131 u132 u133 u134 u135 u136 u137 u138 u139 u140 u141 u142 u143 u144 u145 u146 u147 u148 u149 u150 u151 u152 u153 u154 u155 u156 u157 u158 u159 u160 u161 u162 u163 u164 u165 u166 u167 u168 u169 u170 u171 u172 u173 u174 u175 u176 u177 u178 u179 u180 u181 u182 u183 u184 u185 u186 u187 u188 u189 u190 u191 u192 u193 u194 u195 u196 u197 u198 u199 u200 u201 u202 u203 u204 u205 u206 u207 u208 u209 u210 u211 u212 u213 u214 u215 u216 u217 u218 u219 u220 u221 u222 u223 u224 : Value, (∃ (ii sb : Nat) (a : Ab) (l : Lg) (s m : DS) (Q : Nat → Prop), u46 = Value.int IntKind.i64 (ii : Int) ∧ ii ≤ xs.length ∧ u7 = Value.pointer (some { block := sb, off := 0 }) ∧ Hid (RR w w' (texts xs) bw bm sb d a l s m Q (13 + bsA (List.take ii xs)) ii rm)) ∧ a' = { tmps := (List.toArray (Value.slice a0 xs.length c :: undef :: u2 :: Value.int IntKind.i64 rm :: Value.bool true :: Value.pointer (some { block := d, off := 0 }) :: Value.int IntKind.i64 0 :: u7 :: Value.int IntKind.i64 0 :: Value.pointer (some { block := bw, off := 0 }) :: Value.pointer (some { block := bm, off := 0 }) :: undef :: u12 :: u13 :: u14 :: u15 :: u16 :: u17 :: u18 :: u19 :: u20 :: u21 :: u22 :: Value.tuple #[Value.int IntKind.i64 rm, Value.bool true] :: Value.slice a0 xs.length c :: Value.tuple #[Value.int IntKind.i64 rm, Value.bool true] :: Value.int IntKind.i64 rm :: Value.bool true :: Value.bool true :: Value.bool false :: Value.tuple #[Value.pointer (some { block := d, off := 0 }), Value.int IntKind.i64 0] :: Value.int IntKind.i64 rm :: Value.tuple #[Value.pointer (some { block := d, off := 0 }), Value.int IntKind.i64 0] :: Value.pointer (some { block := d, off := 0 }) :: Value.int IntKind.i64 0 :: Value.tuple #[Value.pointer (some { block := sb0, off := 0 }), Value.int IntKind.i64 0] :: Value.pointer (some { block := d, off := 0 }) :: Value.tuple #[Value.pointer (some { block := sb0, off := 0 }), Value.int IntKind.i64 0] :: Value.pointer (some { block := sb0, off := 0 }) :: Value.int IntKind.i64 0 :: Value.int IntKind.i64 0 :: Value.bool false :: Value.agg #[Value.slice none 0 0, Value.string { data := #[] }, Value.slice none 0 0] :: Value.agg #[Value.slice none 0 0, Value.string { data := #[] }, Value.slice none 0 0] :: Value.slice a0 xs.length c :: Value.int IntKind.i64 (xs.length : Int) :: u46 :: u47 :: u48 :: u49 :: u50 :: u51 :: u52 :: u53 :: u54 :: u55 :: u56 :: u57 :: u58 :: u59 :: u60 :: u61 :: u62 :: u63 :: u64 :: u65 :: u66 :: u67 :: u68 :: u69 :: u70 :: u71 :: u72 :: u73 :: u74 :: u75 :: u76 :: u77 :: u78 :: u79 :: u80 :: u81 :: u82 :: u83 :: u84 :: u85 :: u86 :: u87 :: u88 :: u89 :: u90 :: u91 :: u92 :: u93 :: u94 :: u95 :: u96 :: u97 :: u98 :: u99 :: u100 :: u101 :: u102 :: u103 :: u104 :: u105 :: u106 :: u107 :: u108 :: u109 :: u110 :: u111 :: u112 :: u113 :: u114 :: u115 :: u116 :: u117 :: u118 :: u119 :: u120 :: u121 :: u122 :: u123 :: u124 :: u125 :: u126 :: u127 :: u128 :: u129 :: u130 :: u131 :: u132 :: u133 :: u134 :: u135 :: u136 :: u137 :: u138 :: u139 :: u140 :: u141 :: u142 :: u143 :: u144 :: u145 :: u146 :: u147 :: u148 :: u149 :: u150 :: u151 :: u152 :: u153 :: u154 :: u155 :: u156 :: u157 :: u158 :: u159 :: u160 :: u161 :: u162 :: u163 :: u164 :: u165 :: u166 :: u167 :: u168 :: u169 :: u170 :: u171 :: u172 :: u173 :: u174 :: u175 :: u176 :: u177 :: u178 :: u179 :: u180 :: u181 :: u182 :: u183 :: u184 :: u185 :: u186 :: u187 :: u188 :: u189 :: u190 :: u191 :: u192 :: u193 :: u194 :: u195 :: u196 :: u197 :: u198 :: u199 :: u200 :: u201 :: u202 :: u203 :: u204 :: u205 :: u206 :: u207 :: u208 :: u209 :: u210 :: u211 :: u212 :: u213 :: u214 :: u215 :: u216 :: u217 :: u218 :: u219 :: u220 :: u221 :: u222 :: u223 :: u224 :: [])), defers := [] }) ∧ xs.length - (intOf (a'.tmps.getD 46 undef)).toNat < xs.length - (intOf ((List.toArray (Value.slice a0 xs.length c :: undef :: u2 :: Value.int IntKind.i64 rm :: Value.bool true :: Value.pointer (some { block := d, off := 0 }) :: Value.int IntKind.i64 0 :: Value.pointer (some { block := sb, off := 0 }) :: Value.int IntKind.i64 0 :: Value.pointer (some { block := bw, off := 0 }) :: Value.pointer (some { block := bm, off := 0 }) :: undef :: u12 :: u13 :: u14 :: u15 :: u16 :: u17 :: u18 :: u19 :: u20 :: u21 :: u22 :: Value.tuple #[Value.int IntKind.i64 rm, Value.bool true] :: Value.slice a0 xs.length c :: Value.tuple #[Value.int IntKind.i64 rm, Value.bool true] :: Value.int IntKind.i64 rm :: Value.bool true :: Value.bool true :: Value.bool false :: Value.tuple #[Value.pointer (some { block := d, off := 0 }), Value.int IntKind.i64 0] :: Value.int IntKind.i64 rm :: Value.tuple #[Value.pointer (some { block := d, off := 0 }), Value.int IntKind.i64 0] :: Value.pointer (some { block := d, off := 0 }) :: Value.int IntKind.i64 0 :: Value.tuple #[Value.pointer (some { block := sb0, off := 0 }), Value.int IntKind.i64 0] :: Value.pointer (some { block := d, off := 0 }) :: Value.tuple #[Value.pointer (some { block := sb0, off := 0 }), Value.int IntKind.i64 0] :: Value.pointer (some { block := sb0, off := 0 }) :: Value.int IntKind.i64 0 :: Value.int IntKind.i64 0 :: Value.bool false :: Value.agg #[Value.slice none 0 0, Value.string { data := #[] }, Value.slice none 0 0] :: Value.agg #[Value.slice none 0 0, Value.string { data := #[] }, Value.slice none 0 0] :: Value.slice a0 xs.length c :: Value.int IntKind.i64 (xs.length : Int) :: Value.int IntKind.i64 (ii : Int) :: u47 :: u48 :: u49 :: u50 :: u51 :: u52 :: u53 :: u54 :: u55 :: u56 :: u57 :: u58 :: u59 :: u60 :: u61 :: u62 :: u63 :: u64 :: u65 :: u66 :: u67 :: u68 :: u69 :: u70 :: u71 :: u72 :: u73 :: u74 :: u75 :: u76 :: u77 :: u78 :: u79 :: u80 :: u81 :: u82 :: u83 :: u84 :: u85 :: u86 :: u87 :: u88 :: u89 :: u90 :: u91 :: u92 :: u93 :: u94 :: u95 :: u96 :: u97 :: u98 :: u99 :: u100 :: u101 :: u102 :: u103 :: u104 :: u105 :: u106 :: u107 :: u108 :: u109 :: u110 :: u111 :: u112 :: u113 :: u114 :: u115 :: u116 :: u117 :: u118 :: u119 :: u120 :: u121 :: u122 :: u123 :: u124 :: u125 :: u126 :: u127 :: u128 :: u129 :: u130 :: u131 :: u132 :: u133 :: u134 :: u135 :: u136 :: u137 :: u138 :: u139 :: u140 :: u141 :: u142 :: u143 :: u144 :: u145 :: u146 :: u147 :: u148 :: u149 :: u150 :: u151 :: u152 :: u153 :: u154 :: u155 :: u156 :: u157 :: u158 :: u159 :: u160 :: u161 :: u162 :: u163 :: u164 :: u165 :: u166 :: u167 :: u168 :: u169 :: u170 :: u171 :: u172 :: u173 :: u174 :: u175 :: u176 :: u177 :: u178 :: u179 :: u180 :: u181 :: u182 :: u183 :: u184 :: u185 :: u186 :: u187 :: u188 :: u189 :: u190 :: u191 :: u192 :: u193 :: u194 :: u195 :: u196 :: u197 :: u198 :: u199 :: u200 :: u201 :: u202 :: u203 :: u204 :: u205 :: u206 :: u207 :: u208 :: u209 :: u210 :: u211 :: u212 :: u213 :: u214 :: u215 :: u216 :: u217 :: u218 :: u219 :: u220 :: u221 :: u222 :: u223 :: u224 :: [])).getD 46 undef)).toNat) (Exit.inBlock 0 (Exit.then K (bodyPost Tryz.prog Tryz.f7 fun e w' => ∃ b, e = Ending.returned (Value.bool b) ∧ (b = false → Fine xs ∧ ¬NoClash (texts xs)) ∧ Below w.heap.size w w')))) { tmps := (List.toArray (Value.slice a0 xs.length c :: undef :: u2 :: Value.int IntKind.i64 rm :: Value.bool true :: Value.pointer (some { block := d, off := 0 }) :: Value.int IntKind.i64 0 :: Value.pointer (some { block := sb, off := 0 }) :: Value.int IntKind.i64 0 :: Value.pointer (some { block := bw, off := 0 }) :: Value.pointer (some { block := bm, off := 0 }) :: undef :: u12 :: u13 :: u14 :: u15 :: u16 :: u17 :: u18 :: u19 :: u20 :: u21 :: u22 :: Value.tuple #[Value.int IntKind.i64 rm, Value.bool true] :: Value.slice a0 xs.length c :: Value.tuple #[Value.int IntKind.i64 rm, Value.bool true] :: Value.int IntKind.i64 rm :: Value.bool true :: Value.bool true :: Value.bool false :: Value.tuple #[Value.pointer (some { block := d, off := 0 }), Value.int IntKind.i64 0] :: Value.int IntKind.i64 rm :: Value.tuple #[Value.pointer (some { block := d, off := 0 }), Value.int IntKind.i64 0] :: Value.pointer (some { block := d, off := 0 }) :: Value.int IntKind.i64 0 :: Value.tuple #[Value.pointer (some { block := sb0, off := 0 }), Value.int IntKind.i64 0] :: Value.pointer (some { block := d, off := 0 }) :: Value.tuple #[Value.pointer (some { block := sb0, off := 0 }), Value.int IntKind.i64 0] :: Value.pointer (some { block := sb0, off := 0 }) :: Value.int IntKind.i64 0 :: Value.int IntKind.i64 0 :: Value.bool false :: Value.agg #[Value.slice none 0 0, Value.string { data := #[] }, Value.slice none 0 0] :: Value.agg #[Value.slice none 0 0, Value.string { data := #[] }, Value.slice none 0 0] :: Value.slice a0 xs.length c :: Value.int IntKind.i64 (xs.length : Int) :: Value.int IntKind.i64 (ii : Int) :: u47 :: u48 :: u49 :: u50 :: u51 :: u52 :: u53 :: u54 :: u55 :: u56 :: u57 :: u58 :: u59 :: u60 :: u61 :: u62 :: u63 :: u64 :: u65 :: u66 :: u67 :: u68 :: u69 :: u70 :: u71 :: u72 :: u73 :: u74 :: u75 :: u76 :: u77 :: u78 :: u79 :: u80 :: u81 :: u82 :: u83 :: u84 :: u85 :: u86 :: u87 :: u88 :: u89 :: u90 :: u91 :: u92 :: u93 :: u94 :: u95 :: u96 :: u97 :: u98 :: u99 :: u100 :: u101 :: u102 :: u103 :: u104 :: u105 :: u106 :: u107 :: u108 :: u109 :: u110 :: u111 :: u112 :: u113 :: u114 :: u115 :: u116 :: u117 :: u118 :: u119 :: u120 :: u121 :: u122 :: u123 :: u124 :: u125 :: u126 :: u127 :: u128 :: u129 :: u130 :: u131 :: u132 :: u133 :: u134 :: u135 :: u136 :: u137 :: u138 :: u139 :: u140 :: u141 :: u142 :: u143 :: u144 :: u145 :: u146 :: u147 :: u148 :: u149 :: u150 :: u151 :: u152 :: u153 :: u154 :: u155 :: u156 :: u157 :: u158 :: u159 :: u160 :: u161 :: u162 :: u163 :: u164 :: u165 :: u166 :: u167 :: u168 :: u169 :: u170 :: u171 :: u172 :: u173 :: u174 :: u175 :: u176 :: u177 :: u178 :: u179 :: u180 :: u181 :: u182 :: u183 :: u184 :: u185 :: u186 :: u187 :: u188 :: u189 :: u190 :: u191 :: u192 :: u193 :: u194 :: u195 :: u196 :: u197 :: u198 :: u199 :: u200 :: u201 :: u202 :: u203 :: u204 :: u205 :: u206 :: u207 :: u208 :: u209 :: u210 :: u211 :: u212 :: u213 :: u214 :: u215 :: u216 :: u217 :: u218 :: u219 :: u220 :: u221 :: u222 :: u223 :: u224 :: [])), defers := [] } wr := by
  conv => arg 2; whnf
  have hlt' : (ii : Int) < (xs.length : Int) := by omega
  have hi0 : (0 : Int) ≤ (ii : Int) := by omega
  have hi40 : ii < 40 := by omega
  obtain ⟨⟨b, off, rfl, k0, k1, k2, k3, k4⟩, hpk, hpkb, hok⟩ := (HR.out.1.keep HI.out.di.below) ii hlt
  have hmem := List.getElem_mem hlt
  have hfx := HF.out.2 _ hmem
  have hinT : xs[ii].ac.text ∈ texts xs := List.mem_map.2 ⟨_, hmem, rfl⟩
  have hpkb0 := (HR.out.1 ii hlt).2.2.1
  have hbt := bsA_take hlt
  have hbl := bsA_le xs (ii + 1)
  have hb3 := bsA_rm xs
  have hrmf := HR.out.2.2 HF.out
  generalize xs[ii] = x at *
  obtain ⟨⟨what, n, text, picks, raw⟩, ka, kc⟩ := x
  dsimp only at hcase hraw
  simp only at k0 k1 k2 k3 k4 hpk hpkb hok hfx hinT hpkb0 hbt
  have hroom : (3 * (13 + bsA (xs.take (ii + 1)) : Nat) + 1000 : Int) ≤ rm := by rw [← HRM.out]; omega
  have hB40 : 13 + bsA (xs.take (ii + 1)) ≤ 40000 := by omega
  rw [show 13 + bsA (xs.take (ii + 1)) = 13 + bsA (xs.take ii) + (13 + text.length) by omega] at hroom hB40
  have HBT : Hid (13 + bsA (xs.take (ii + 1)) = 13 + bsA (xs.take ii) + (13 + text.length)) := Lib.hid (by omega)
  generalize 13 + bsA (xs.take ii) = B at *
  have HA := Lib.hid (And.intro hfx (And.intro hinT (And.intro hpkb0 (And.intro hroom (And.intro hB40 (And.intro hok hi40))))))
  have hnb := hok.1
  have hwb := hok.2.1
  -- the act's own block
  have hB1 : Below wr.heap.size wr (wr.alloc (.cells #[.int .i64 what, .int .i64 n, .string (txt text), .slice ka picks.length kc, .bool raw] 51)) := (Below.refl _ _).alloc (Nat.le_refl _) _
  have hDI := HI.out.di.new hB1
  have hST := HI.out.di.str HI.out.str (Ch.of_new hB1)
  have hAC : (wr.alloc (.cells #[.int .i64 what, .int .i64 n, .string (txt text), .slice ka picks.length kc, .bool raw] 51)).heap[wr.heap.size]? = some (.cells #[.int .i64 what, .int .i64 n, .string (txt text), .slice ka picks.length kc, .bool raw] 51 (0, 0)) := heap_alloc_new wr _
  have hQA : More Q wr (wr.alloc (.cells #[.int .i64 what, .int .i64 n, .string (txt text), .slice ka picks.length kc, .bool raw] 51)) wr.heap.size := .inr ⟨Nat.le_refl _, by simp⟩
  have hPK := hpk
  have HP := Lib.hid (And.intro hDI (And.intro hST (And.intro hAC (And.intro hQA (And.intro (RdI_keep hPK (Ch.of_new (S := fun _ => False) hB1) fun _ _ _ => id) (And.intro HI.out.li (And.intro HI.out.md HI.out.room)))))))
  clear hDI hST hAC hQA hPK hpk hpkb hok hfx hinT hpkb0 hroom hB40 hB1 hmem hbt hbl hb3 hrmf
  go_upto_region 13 with fail
  generalize hW1 : wr.alloc (.cells #[.int .i64 what, .int .i64 n, .string (txt text), .slice ka picks.length kc, .bool raw] 51) = W1 at *
  have HW1 := Lib.hid hW1
  generalize More Q wr W1 = Q1 at *
  generalize wr.heap.size = ba at *
  have hT500 : ∀ x ∈ texts xs, x.length ≤ 500 := fun x hx => by obtain ⟨y, hy, rfl⟩ := List.mem_map.1 hx; exact (HF.out.2 y hy).1
  have HT := Lib.hid hT500
  clear hT500
  have f0 : W1.cell? ⟨ba, 0, none⟩ = some (.int .i64 what) := cell_of_row _ _ 0 _ _ _ HP.out.2.2.1
  have hq0 : (what == 0) = false := by rw [hcase]; rfl
  have hq1 : (what == 1) = false := by rw [hcase]; rfl
  have hq2 : (what == 2) = false := by rw [hcase]; rfl
  subst hcase
  clear hwb
  have c2 : W1.cell? ⟨ba, 2, none⟩ = some (.string (txt text)) := cell_of_row _ _ 2 _ _ _ HP.out.2.2.1
  have c3 : W1.cell? ⟨ba, 3, none⟩ = some (.slice ka picks.length kc) := cell_of_row _ _ 3 _ _ _ HP.out.2.2.1
  have c4 : W1.cell? ⟨ba, 4, none⟩ = some (.bool raw) := cell_of_row _ _ 4 _ _ _ HP.out.2.2.1
  have hl5 := HA.out.1.1
  have HC := Lib.hid (And.intro c2 (And.intro c3 c4))
  have HFW := Lib.hid (HP.out.2.2.2.2.2.2.1.few (by omega) (by have := HA.out.2.2.2.2.1; omega)).1
  have P13 : Hid (∀ V, Below W1.heap.size W1 V → Calls Tryz.prog 13 #[.pointer (some ⟨sb, 0, none⟩)] V fun e w' => ∃ v c, e = .returned (.slice v (a.kept.map (·.1)).length c) ∧ RdT w' v (a.kept.map (·.1)) ∧ Below W1.heap.size W1 w') := Lib.hid fun V hV => (prints_call (HP.out.2.1.new hV) (by have := HFW.out; omega)).mono (by rintro e w' ⟨v, c, h1, h2, h3⟩; exact ⟨v, c, h1, h2, hV.trans (h3.mono hV.size)⟩)
  have P25 : Hid (∀ V v c, RdT V v (a.kept.map (·.1)) → Below W1.heap.size W1 V → Calls Tryz.prog 25 #[.slice v (a.kept.map (·.1)).length c, .slice ka picks.length kc] V fun e w' => ∃ b d, e = .returned (.slice b (pickL (a.kept.map (·.1)) picks).length d) ∧ OwT w' W1.heap.size (.slice b (pickL (a.kept.map (·.1)) picks).length d) (pickL (a.kept.map (·.1)) picks) ∧ Below W1.heap.size W1 w') := Lib.hid fun V v c h1 hV => (lprints_any h1 (by rw [List.length_map]; have := HFW.out; omega) (RdI_keep HP.out.2.2.2.2.1 (Ch.of_new (S := fun _ => False) hV) fun _ _ _ => id) (by have := HA.out.1.2; omega)).mono (by rintro e w' ⟨b, d, h2, h3, h4⟩; exact ⟨b, d, h2, ⟨h3.1, h3.2.imp id fun ⟨g, cap, cur, hv, hb, r⟩ => ⟨g, cap, cur, hv, Nat.le_trans hV.size hb, r⟩⟩, hV.trans (h4.mono hV.size)⟩)
  clear c2 c4
  have HKO : Hid (∀ p ∈ pickL (a.kept.map (·.1)) picks, p.length ≤ 1000) := Lib.hid fun p hp => by obtain ⟨q, hq, rfl⟩ := List.mem_map.1 (pickL_mem hp); have h9 := (HP.out.2.2.2.2.2.2.1.few (by omega) (by have := HA.out.2.2.2.2.1; omega)).2.1; rw [(h9 q hq).1, sha_len]; omega
  have HPL : Hid ((pickL (a.kept.map (·.1)) picks).length ≤ 40) := Lib.hid (Nat.le_trans (pickL_len _ _) HA.out.1.2)
  generalize a.kept.map (·.1) = kp at *
  generalize pickL kp picks = pk at *
  have hbd : Below W1.heap.size W1 W1.drew := (Below.refl _ _).drew
  have c3k : ∀ V, Below W1.heap.size W1 V → V.cell? ⟨ba, 3, none⟩ = some (.slice ka picks.length kc) := fun V hV => by have := HC.out.2.1; exact cell_of_row _ _ 3 _ _ _ (hold_row HP.out.2.2.1 (HP.out.1.hold (Ch.of_new hV)) HP.out.2.2.2.1)
  have C3K := Lib.hid c3k
  have CK : Hid (∀ V, Below W1.heap.size W1 V → V.cell? ⟨ba, 2, none⟩ = some (.string (txt text)) ∧ V.cell? ⟨ba, 4, none⟩ = some (.bool raw)) := Lib.hid fun V hV => ⟨cell_of_row _ _ 2 _ _ _ (hold_row HP.out.2.2.1 (HP.out.1.hold (Ch.of_new hV)) HP.out.2.2.2.1), cell_of_row _ _ 4 _ _ _ (hold_row HP.out.2.2.1 (HP.out.1.hold (Ch.of_new hV)) HP.out.2.2.2.1)⟩
  clear c3k
  have HBD := Lib.hid hbd
  clear hbd
  subst hraw
  go_upto_region 38 with fail
  go_region_held3 (fun V => V.cell? ⟨ba, 3, none⟩ = some (.slice ka picks.length kc)) (first | exact C3K.out _ hb3 | exact C3K.out _ hb2 | exact C3K.out _ HBD.out | skip) (first
    | (go_at_call 13; (with_reducible refine (P13.out _ HBD.out).mono ?_); rintro e w2 ⟨v2, c2, rfl, hr2, hb2⟩)
    | (go_at_call 25; (with_reducible refine (P25.out _ _ _ hr2 hb2).mono ?_); rintro e w3 ⟨v3, c3, rfl, hr3, hb3⟩))
  obtain ⟨g2, g4⟩ := CK.out _ hb3
  obtain ⟨ps, hpse⟩ : ∃ ps, pk ++ [text] = ps := ⟨_, rfl⟩
  have HPS : Hid (ps.length ≤ 41 ∧ ∀ p ∈ ps, p.length ≤ 1000) := Lib.hid ⟨by have := HPL.out; rw [← hpse, List.length_append, List.length_singleton]; omega, by rw [← hpse]; intro p hp; rcases List.mem_append.1 hp with hp | hp; (· exact HKO.out p hp); (· rw [List.mem_singleton.1 hp]; omega)⟩
  have hO := hr3.new ((Below.refl w3.heap.size w3).alloc (Nat.le_refl _) (.cells #[.string (txt text)] 9))
  have HT1 := Lib.hid (fun W => one_rd W text)
  have hpl := HPL.out
  generalize txt text = tt at *
  have P26 : Hid (∀ V pa pc, RdT V pa ps → Below W1.heap.size W1 V → Calls Tryz.prog 26 #[.agg #[.slice s.ka s.K.length s.kc, .string (txt s.R), .slice s.na s.N.length s.nc], .slice pa ps.length pc] V fun e w' => ∃ nx : DS, e = .returned (.tuple #[.agg #[.slice nx.ka nx.K.length nx.kc, .string (txt nx.R), .slice nx.na nx.N.length nx.nc], .bool (rcol s.K ps).isSome]) ∧
        nx.K = (rcol s.K ps).getD s.K ∧ nx.R = s.R ∧ nx.N = s.N ∧ RdT (w'.alloc (.cells #[.slice nx.ka nx.K.length nx.kc, .string (txt nx.R), .slice nx.na nx.N.length nx.nc] 49)) pa ps ∧
        ∃ V2 Q2, V2 = w'.alloc (.cells #[.slice nx.ka nx.K.length nx.kc, .string (txt nx.R), .slice nx.na nx.N.length nx.nc] 49) ∧ DI w V2 bw bm s m Q2 ∧ Str V2 sb d a l (GQ w bw bm Q2) ∧ DAt V2 w'.heap.size nx ∧ nx.In V2 Q2 ∧ Q2 w'.heap.size ∧ Hold Q1 V V2 ∧ (∀ k, Q1 k → Q2 k)) := Lib.hid fun V pa pc h1 h2 => rcollect_call (HP.out.1.newQ h2) (HP.out.2.1.new h2) HP.out.2.2.2.2.2.1 HT.out (by omega) pa pc ps h1 (by have := HPS.out.1; omega)
  have P20a : Hid (∀ V Q2, Str V sb d a l (GQ w bw bm Q2) → Calls Tryz.prog 20 #[.pointer (some ⟨sb, 0, none⟩)] V fun e w' => e = .returned (.bool false) ∧ w' = V) := Lib.hid fun V Q2 h => by have h9 := down_call h; rwa [hdn] at h9
  have P17 : Hid (∀ V Q2 pa pc, DI w V bw bm s m Q2 → Str V sb d a l (GQ w bw bm Q2) → RdT V pa ps → Calls Tryz.prog 17 #[.pointer (some ⟨sb, 0, none⟩), .slice pa ps.length pc] V fun e w' => ((restOf a.kept ps = none → e = .returned (.int .i64 6) ∧ Str w' sb d a l (GQ w bw bm Q2)) ∧ ∀ rest, restOf a.kept ps = some rest → e = .returned (.int .i64 (a.colC l rest)) ∧ Str w' sb d (a.colA l rest) (a.colL l rest) (GQ w bw bm Q2)) ∧ DI w w' bw bm s m Q2 ∧ Ch (GQ w bw bm Q2) V w') := Lib.hid fun V Q2 pa pc h1 h2 h3 => collect_call h1 h2 (HP.out.2.2.2.2.2.2.1.up hdn).1 (by omega) (by have := HA.out.2.2.2.2.1; omega) pa pc ps h3 HPS.out.2 (by have := HPS.out.1; omega)
  have HWAY := Lib.hid (HP.out.2.2.2.2.2.2.1.collect hdn ps (by have := HA.out.2.2.2.1; rw [HP.out.2.2.2.2.2.2.2]; omega))
  have hrc : ∃ q, (rcol s.K ps).isSome = q := ⟨_, rfl⟩
  obtain ⟨q, hrc⟩ := hrc
  have HRC := Lib.hid hrc
  clear hrc
  rcases HWAY.out with ⟨hw0, hw1⟩ | ⟨rest, hw0, hw1, hw2, hw3⟩
  · cases q with
    | true =>
      have HNN : Hid (¬ NoClash (texts xs)) := Lib.hid fun hT => by have h1 := HRC.out; rw [hw1 hT] at h1; cases h1
      go_wp2_with (first
        | (at_builtin; refine wpList_app rfl (.tmp 120) (.tmp 123) rfl W1.heap.size (.slice v3 pk.length c3) pk rfl hO (some ⟨w3.heap.size, 0, none⟩) 1 [text] 1 rfl rfl (HT1.out w3) (fun e => by cases e) (by simp; omega) (by have := hb3.size; simp; omega) ?_; intro a4 c4 w4 o4 h4; rw [hpse] at o4 ⊢; have hbk : Below W1.heap.size W1 w4 := (hb3.alloc hb3.size _).trans (h4.below (by have := hb3.size; simp; omega) fun k hk e => by have := (hr3.own k e).1; omega); have hk := (sl_of o4).rd; have q0 := (HP.out.1.newQ hbk).dw.c0; have q1 := (HP.out.1.newQ hbk).dw.c1; have q2 := (HP.out.1.newQ hbk).dw.c2)
        | (go_at_call 26; (with_reducible refine (P26.out _ _ _ hk hbk).mono ?_); rintro e w5 ⟨nx, he, eK, eR, eN, hrp, V5, Q5, hV5, hD5, hS5, hdn5, hin5, hq5, hh5, -⟩; rw [HRC.out] at he; subst he; subst hV5; have HEQ := Lib.hid (And.intro eK (And.intro eR eN)); clear eK eR eN)
        | (go_at_call 20; (with_reducible refine (P20a.out _ _ hS5).mono ?_); rintro e w6 ⟨rfl, hw6⟩; subst w6)
        | (go_at_call 17; (with_reducible refine (P17.out _ _ _ _ hD5 hS5 hrp).mono ?_); rintro e w6 ⟨⟨hz, -⟩, hD6, hc6⟩; obtain ⟨rfl, hS6⟩ := hz hw0)
      )
      go_ret
      exact ⟨false, rfl, fun _ => ⟨HF.out, HNN.out⟩, hD6.below⟩
    | false =>
      have HDN : Hid (a.down = false) := Lib.hid hdn
      have P20 : Hid (∀ V Q2, Str V sb d a l (GQ w bw bm Q2) → Calls Tryz.prog 20 #[.pointer (some ⟨sb, 0, none⟩)] V fun e w' => e = .returned (.bool false) ∧ w' = V) := Lib.hid fun V Q2 h => by have h9 := down_call h; rwa [HDN.out] at h9
      have HKL : Hid (a.kept.length ≤ 1000) := Lib.hid (by have := HFW.out; omega)
      have HNS : Hid (NoClash (texts xs) → SameP a s.K s.N s.R) := Lib.hid fun hT => ((HP.out.2.2.2.2.2.2.1.up hdn).2 hT).same hT
      have HLI : Hid (LI (texts xs) (ii + 1) s m) := Lib.hid (HP.out.2.2.2.2.2.1.mono (by omega))
      by_cases hs : SameP a s.K s.N s.R
      · have P28 : Hid (∀ V s2 m2 Q2, DI w V bw bm s2 m2 Q2 → Str V sb d a l (GQ w bw bm Q2) → s2.K = s.K ∧ s2.R = s.R ∧ s2.N = s.N ∧ LI (texts xs) (ii + 1) s2 m2 → Calls Tryz.prog 28 #[.pointer (some ⟨sb, 0, none⟩), .agg #[.slice s2.ka s2.K.length s2.kc, .string (txt s2.R), .slice s2.na s2.N.length s2.nc]] V fun e w' => e = .returned (.bool true) ∧ Below V.heap.size V w') := Lib.hid fun V s2 m2 Q2 h1 h2 h3 => same_callE true ⟨fun _ => hs, fun _ => rfl⟩ h1 h2 h3.2.2.2 HT.out (by omega) HKL.out h3.1 h3.2.2.1 h3.2.1
        clear hs
        go_wp2_with (first
          | (at_builtin; refine wpList_app rfl (.tmp 120) (.tmp 123) rfl W1.heap.size (.slice v3 pk.length c3) pk rfl hO (some ⟨w3.heap.size, 0, none⟩) 1 [text] 1 rfl rfl (HT1.out w3) (fun e => by cases e) (by simp; omega) (by have := hb3.size; simp; omega) ?_; intro a4 c4 w4 o4 h4; rw [hpse] at o4 ⊢; have hbk : Below W1.heap.size W1 w4 := (hb3.alloc hb3.size _).trans (h4.below (by have := hb3.size; simp; omega) fun k hk e => by have := (hr3.own k e).1; omega); have hk := (sl_of o4).rd; have q0 := (HP.out.1.newQ hbk).dw.c0; have q1 := (HP.out.1.newQ hbk).dw.c1; have q2 := (HP.out.1.newQ hbk).dw.c2)
          | (go_at_call 26; (with_reducible refine (P26.out _ _ _ hk hbk).mono ?_); rintro e w5 ⟨nx, he, eK, eR, eN, hrp, V5, Q5, hV5, hD5, hS5, hdn5, hin5, hq5, hh5, -⟩; rw [HRC.out] at he; subst he; subst hV5; have HEQ := Lib.hid (And.intro eK (And.intro eR eN)); clear eK eR eN)
          | (go_at_call 20; (with_reducible refine (P20.out _ _ hS6).mono ?_); rintro e w7 ⟨rfl, hw7⟩; subst w7)
          | (go_at_call 28; (with_reducible refine (P28.out _ _ _ _ hD6 hS6 ⟨rfl, rfl, rfl, HLI.out⟩).mono ?_); rintro e wz ⟨rfl, hbz⟩)
          | (go_at_call 20; (with_reducible refine (P20a.out _ _ hS5).mono ?_); rintro e w6 ⟨rfl, hw6⟩; subst w6)
          | (go_at_call 17; (with_reducible refine (P17.out _ _ _ _ hD5 hS5 hrp).mono ?_); rintro e w6 ⟨⟨hz, -⟩, hD6, hc6⟩; obtain ⟨rfl, hS6⟩ := hz hw0; have c50 := hD6.dw.c0; have c51 := hD6.dw.c1; have c52 := hD6.dw.c2)
        )
        go_roundw
        case rel => exact ⟨ii + 1, sb, a, l, s, m, _, by go_num, by omega, rfl, Lib.hid (by rw [HBT.out]; exact RR.new ⟨hD6, hS6, HLI.out, HP.out.2.2.2.2.2.2.1.mono (by omega) (by omega), HP.out.2.2.2.2.2.2.2⟩ hbz)⟩
        case measure => simp [intOf]; omega
      · have hns : ¬ NoClash (texts xs) := fun hT => hs (HNS.out hT)
        have HNN := Lib.hid hns
        clear hns
        have P28 : Hid (∀ V s2 m2 Q2, DI w V bw bm s2 m2 Q2 → Str V sb d a l (GQ w bw bm Q2) → s2.K = s.K ∧ s2.R = s.R ∧ s2.N = s.N ∧ LI (texts xs) (ii + 1) s2 m2 → Calls Tryz.prog 28 #[.pointer (some ⟨sb, 0, none⟩), .agg #[.slice s2.ka s2.K.length s2.kc, .string (txt s2.R), .slice s2.na s2.N.length s2.nc]] V fun e w' => e = .returned (.bool false) ∧ Below V.heap.size V w') := Lib.hid fun V s2 m2 Q2 h1 h2 h3 => same_callE false ⟨fun h => (by cases h), fun h => absurd h hs⟩ h1 h2 h3.2.2.2 HT.out (by omega) HKL.out h3.1 h3.2.2.1 h3.2.1
        clear hs
        go_wp2_with (first
          | (at_builtin; refine wpList_app rfl (.tmp 120) (.tmp 123) rfl W1.heap.size (.slice v3 pk.length c3) pk rfl hO (some ⟨w3.heap.size, 0, none⟩) 1 [text] 1 rfl rfl (HT1.out w3) (fun e => by cases e) (by simp; omega) (by have := hb3.size; simp; omega) ?_; intro a4 c4 w4 o4 h4; rw [hpse] at o4 ⊢; have hbk : Below W1.heap.size W1 w4 := (hb3.alloc hb3.size _).trans (h4.below (by have := hb3.size; simp; omega) fun k hk e => by have := (hr3.own k e).1; omega); have hk := (sl_of o4).rd; have q0 := (HP.out.1.newQ hbk).dw.c0; have q1 := (HP.out.1.newQ hbk).dw.c1; have q2 := (HP.out.1.newQ hbk).dw.c2)
          | (go_at_call 26; (with_reducible refine (P26.out _ _ _ hk hbk).mono ?_); rintro e w5 ⟨nx, he, eK, eR, eN, hrp, V5, Q5, hV5, hD5, hS5, hdn5, hin5, hq5, hh5, -⟩; rw [HRC.out] at he; subst he; subst hV5; have HEQ := Lib.hid (And.intro eK (And.intro eR eN)); clear eK eR eN)
          | (go_at_call 20; (with_reducible refine (P20.out _ _ hS6).mono ?_); rintro e w7 ⟨rfl, hw7⟩; subst w7)
          | (go_at_call 28; (with_reducible refine (P28.out _ _ _ _ hD6 hS6 ⟨rfl, rfl, rfl, HLI.out⟩).mono ?_); rintro e wz ⟨rfl, hbz⟩)
          | (go_at_call 20; (with_reducible refine (P20a.out _ _ hS5).mono ?_); rintro e w6 ⟨rfl, hw6⟩; subst w6)
          | (go_at_call 17; (with_reducible refine (P17.out _ _ _ _ hD5 hS5 hrp).mono ?_); rintro e w6 ⟨⟨hz, -⟩, hD6, hc6⟩; obtain ⟨rfl, hS6⟩ := hz hw0; have c50 := hD6.dw.c0; have c51 := hD6.dw.c1; have c52 := hD6.dw.c2)
        )
        go_ret
        exact ⟨false, rfl, fun _ => ⟨HF.out, HNN.out⟩, (hD6.newQ hbz).below⟩
  · have HRL : Hid ((a.colL l rest).room = rm) := Lib.hid (hw2.trans HP.out.2.2.2.2.2.2.2)
    rcases hw3 with ⟨e0, eA, edn, ekl, hmd, ens⟩ | ⟨e0, eA, hmd⟩
    · cases q with
      | true =>
        have HDN : Hid ((a.less rest).down = false) := Lib.hid edn
        have P20 : Hid (∀ V Q2, Str V sb d (a.less rest) (a.colL l rest) (GQ w bw bm Q2) → Calls Tryz.prog 20 #[.pointer (some ⟨sb, 0, none⟩)] V fun e w' => e = .returned (.bool false) ∧ w' = V) := Lib.hid fun V Q2 h => by have h9 := down_call h; rwa [HDN.out] at h9
        have HKL : Hid ((a.less rest).kept.length ≤ 1000) := Lib.hid (by omega)
        have HNS := Lib.hid ens
        have HMD := Lib.hid hmd
        clear edn ekl ens hmd
        by_cases hs : SameP (a.less rest) ((rcol s.K ps).getD s.K) s.N s.R
        · have P28 : Hid (∀ V s2 m2 Q2, DI w V bw bm s2 m2 Q2 → Str V sb d (a.less rest) (a.colL l rest) (GQ w bw bm Q2) → s2.K = ((rcol s.K ps).getD s.K) ∧ s2.R = s.R ∧ s2.N = s.N ∧ LI (texts xs) (ii + 1) s2 m2 → Calls Tryz.prog 28 #[.pointer (some ⟨sb, 0, none⟩), .agg #[.slice s2.ka s2.K.length s2.kc, .string (txt s2.R), .slice s2.na s2.N.length s2.nc]] V fun e w' => e = .returned (.bool true) ∧ Below V.heap.size V w') := Lib.hid fun V s2 m2 Q2 h1 h2 h3 => same_callE true ⟨fun _ => hs, fun _ => rfl⟩ h1 h2 h3.2.2.2 HT.out (by omega) HKL.out h3.1 h3.2.2.1 h3.2.1
          clear hs
          go_wp2_with (first
            | (at_builtin; refine wpList_app rfl (.tmp 120) (.tmp 123) rfl W1.heap.size (.slice v3 pk.length c3) pk rfl hO (some ⟨w3.heap.size, 0, none⟩) 1 [text] 1 rfl rfl (HT1.out w3) (fun e => by cases e) (by simp; omega) (by have := hb3.size; simp; omega) ?_; intro a4 c4 w4 o4 h4; rw [hpse] at o4 ⊢; have hbk : Below W1.heap.size W1 w4 := (hb3.alloc hb3.size _).trans (h4.below (by have := hb3.size; simp; omega) fun k hk e => by have := (hr3.own k e).1; omega); have hk := (sl_of o4).rd; have q0 := (HP.out.1.newQ hbk).dw.c0; have q1 := (HP.out.1.newQ hbk).dw.c1; have q2 := (HP.out.1.newQ hbk).dw.c2)
            | (go_at_call 26; (with_reducible refine (P26.out _ _ _ hk hbk).mono ?_); rintro e w5 ⟨nx, he, eK, eR, eN, hrp, V5, Q5, hV5, hD5, hS5, hdn5, hin5, hq5, hh5, -⟩; rw [HRC.out] at he; subst he; subst hV5; have HEQ := Lib.hid (And.intro eK (And.intro eR eN)); clear eK eR eN)
            | (go_at_call 20; (with_reducible refine (P20a.out _ _ hS5).mono ?_); rintro e w6 ⟨rfl, hw6⟩; subst w6)
            | (go_at_call 17; (with_reducible refine (P17.out _ _ _ _ hD5 hS5 hrp).mono ?_); rintro e w6 ⟨⟨-, hz⟩, hD6, hc6⟩; replace hz := hz rest hw0; rw [e0, eA] at hz; obtain ⟨rfl, hS6⟩ := hz; have hdn6 := hdn5.keep hc6 (fun e => e.2.2.2 hq5); have hin6 := hin5.keep hc6 (fun k hk e => e.2.2.2 hk); have n0 : w6.cell? ⟨w5.heap.size, 0, none⟩ = some (.slice nx.ka nx.K.length nx.kc) := hdn6.c0; have n1 : w6.cell? ⟨w5.heap.size, 1, none⟩ = some (.string (txt nx.R)) := hdn6.c1; have n2 : w6.cell? ⟨w5.heap.size, 2, none⟩ = some (.slice nx.na nx.N.length nx.nc) := hdn6.c2; have ow0 := hD6.dw.c0; have ow1 := hD6.dw.c1; have ow2 := hD6.dw.c2; have owf0 := hD6.dw.fr 0; have owf1 := hD6.dw.fr 1; have owf2 := hD6.dw.fr 2; have om0 := hD6.dm.c0; have om1 := hD6.dm.c1; have om2 := hD6.dm.c2; have omf0 := hD6.dm.fr 0; have omf1 := hD6.dm.fr 1; have omf2 := hD6.dm.fr 2)
          )
          have hne1 : ¬ bw = bm := hD6.ne
          have hne2 : ¬ bm = bw := fun e => hD6.ne e.symm
          have hne3 : ¬ w5.heap.size = bw := fun e => hD6.nw (e ▸ hq5)
          have hne4 : ¬ w5.heap.size = bm := fun e => hD6.nm (e ▸ hq5)
          have hne5 : ¬ bw = w5.heap.size := fun e => hne3 e.symm
          have hne6 : ¬ bm = w5.heap.size := fun e => hne4 e.symm
          go_region
          obtain ⟨Q7, hD7, hS7⟩ := both_step hD6 hS6 hin6 (.slice nx.ka nx.K.length nx.kc) (.string (txt nx.R)) (.slice nx.na nx.N.length nx.nc) rfl (.inl rfl)
          clear hne1 hne2 hne3 hne4 hne5 hne6 n0 n1 n2 ow0 ow1 ow2 owf0 owf1 owf2 om0 om1 om2 omf0 omf1 omf2
          generalize (((((w6.setCell ⟨bw, 0, none⟩ (.slice nx.ka nx.K.length nx.kc)).setCell ⟨bw, 1, none⟩ (.string (txt nx.R))).setCell ⟨bw, 2, none⟩ (.slice nx.na nx.N.length nx.nc)).setCell ⟨bm, 0, none⟩ (.slice nx.ka nx.K.length nx.kc)).setCell ⟨bm, 1, none⟩ (.string (txt nx.R))).setCell ⟨bm, 2, none⟩ (.slice nx.na nx.N.length nx.nc) = W7 at *
          have hbd : Below W7.heap.size W7 W7.drew := (Below.refl _ _).drew
          replace hD7 := hD7.newQ hbd
          replace hS7 := hS7.new hbd
          clear hbd
          generalize W7.drew = W8 at *
          have HLN := Lib.hid ((HP.out.2.2.2.2.2.1.rest ps HEQ.out.1 HEQ.out.2.2).1.mono (show ii ≤ ii + 1 by omega))
          have HMN := Lib.hid ((HMD.out nx HEQ.out.1 HEQ.out.2.1 HEQ.out.2.2).mono (show B ≤ B + (13 + text.length) by omega) (show ii ≤ ii + 1 by omega))
          clear hD5 hS5 hD6 hS6 hdn5 hin5 hq5 hh5 hdn6 hin6 hc6 hrp P26 P17 P13 P25 HMD
          have d50 := hD7.dw.c0
          have d51 := hD7.dw.c1
          have d52 := hD7.dw.c2
          go_wp2_with (first
            | (go_at_call 20; (with_reducible refine (P20.out _ _ hS7).mono ?_); rintro e w7 ⟨rfl, hw7⟩; subst w7)
            | (go_at_call 28; (with_reducible refine (P28.out _ _ _ _ hD7 hS7 ⟨HEQ.out.1, HEQ.out.2.1, HEQ.out.2.2, HLN.out⟩).mono ?_); rintro e wz ⟨rfl, hbz⟩))
          go_roundw
          case rel => exact ⟨ii + 1, sb, a.less rest, a.colL l rest, nx, nx, _, by go_num, by omega, rfl, Lib.hid (by rw [HBT.out]; exact RR.new ⟨hD7, hS7, HLN.out, HMN.out, HRL.out⟩ hbz)⟩
          case measure => simp [intOf]; omega
        · have hns : ¬ NoClash (texts xs) := fun hT => hs (HNS.out hT)
          have HNN := Lib.hid hns
          clear hns
          have P28 : Hid (∀ V s2 m2 Q2, DI w V bw bm s2 m2 Q2 → Str V sb d (a.less rest) (a.colL l rest) (GQ w bw bm Q2) → s2.K = ((rcol s.K ps).getD s.K) ∧ s2.R = s.R ∧ s2.N = s.N ∧ LI (texts xs) (ii + 1) s2 m2 → Calls Tryz.prog 28 #[.pointer (some ⟨sb, 0, none⟩), .agg #[.slice s2.ka s2.K.length s2.kc, .string (txt s2.R), .slice s2.na s2.N.length s2.nc]] V fun e w' => e = .returned (.bool false) ∧ Below V.heap.size V w') := Lib.hid fun V s2 m2 Q2 h1 h2 h3 => same_callE false ⟨fun h => (by cases h), fun h => absurd h hs⟩ h1 h2 h3.2.2.2 HT.out (by omega) HKL.out h3.1 h3.2.2.1 h3.2.1
          clear hs
          go_wp2_with (first
            | (at_builtin; refine wpList_app rfl (.tmp 120) (.tmp 123) rfl W1.heap.size (.slice v3 pk.length c3) pk rfl hO (some ⟨w3.heap.size, 0, none⟩) 1 [text] 1 rfl rfl (HT1.out w3) (fun e => by cases e) (by simp; omega) (by have := hb3.size; simp; omega) ?_; intro a4 c4 w4 o4 h4; rw [hpse] at o4 ⊢; have hbk : Below W1.heap.size W1 w4 := (hb3.alloc hb3.size _).trans (h4.below (by have := hb3.size; simp; omega) fun k hk e => by have := (hr3.own k e).1; omega); have hk := (sl_of o4).rd; have q0 := (HP.out.1.newQ hbk).dw.c0; have q1 := (HP.out.1.newQ hbk).dw.c1; have q2 := (HP.out.1.newQ hbk).dw.c2)
            | (go_at_call 26; (with_reducible refine (P26.out _ _ _ hk hbk).mono ?_); rintro e w5 ⟨nx, he, eK, eR, eN, hrp, V5, Q5, hV5, hD5, hS5, hdn5, hin5, hq5, hh5, -⟩; rw [HRC.out] at he; subst he; subst hV5; have HEQ := Lib.hid (And.intro eK (And.intro eR eN)); clear eK eR eN)
            | (go_at_call 20; (with_reducible refine (P20a.out _ _ hS5).mono ?_); rintro e w6 ⟨rfl, hw6⟩; subst w6)
            | (go_at_call 17; (with_reducible refine (P17.out _ _ _ _ hD5 hS5 hrp).mono ?_); rintro e w6 ⟨⟨-, hz⟩, hD6, hc6⟩; replace hz := hz rest hw0; rw [e0, eA] at hz; obtain ⟨rfl, hS6⟩ := hz; have hdn6 := hdn5.keep hc6 (fun e => e.2.2.2 hq5); have hin6 := hin5.keep hc6 (fun k hk e => e.2.2.2 hk); have n0 : w6.cell? ⟨w5.heap.size, 0, none⟩ = some (.slice nx.ka nx.K.length nx.kc) := hdn6.c0; have n1 : w6.cell? ⟨w5.heap.size, 1, none⟩ = some (.string (txt nx.R)) := hdn6.c1; have n2 : w6.cell? ⟨w5.heap.size, 2, none⟩ = some (.slice nx.na nx.N.length nx.nc) := hdn6.c2; have ow0 := hD6.dw.c0; have ow1 := hD6.dw.c1; have ow2 := hD6.dw.c2; have owf0 := hD6.dw.fr 0; have owf1 := hD6.dw.fr 1; have owf2 := hD6.dw.fr 2; have om0 := hD6.dm.c0; have om1 := hD6.dm.c1; have om2 := hD6.dm.c2; have omf0 := hD6.dm.fr 0; have omf1 := hD6.dm.fr 1; have omf2 := hD6.dm.fr 2)
          )
          have hne1 : ¬ bw = bm := hD6.ne
          have hne2 : ¬ bm = bw := fun e => hD6.ne e.symm
          have hne3 : ¬ w5.heap.size = bw := fun e => hD6.nw (e ▸ hq5)
          have hne4 : ¬ w5.heap.size = bm := fun e => hD6.nm (e ▸ hq5)
          have hne5 : ¬ bw = w5.heap.size := fun e => hne3 e.symm
          have hne6 : ¬ bm = w5.heap.size := fun e => hne4 e.symm
          go_region
          obtain ⟨Q7, hD7, hS7⟩ := both_step hD6 hS6 hin6 (.slice nx.ka nx.K.length nx.kc) (.string (txt nx.R)) (.slice nx.na nx.N.length nx.nc) rfl (.inl rfl)
          clear hne1 hne2 hne3 hne4 hne5 hne6 n0 n1 n2 ow0 ow1 ow2 owf0 owf1 owf2 om0 om1 om2 omf0 omf1 omf2
          generalize (((((w6.setCell ⟨bw, 0, none⟩ (.slice nx.ka nx.K.length nx.kc)).setCell ⟨bw, 1, none⟩ (.string (txt nx.R))).setCell ⟨bw, 2, none⟩ (.slice nx.na nx.N.length nx.nc)).setCell ⟨bm, 0, none⟩ (.slice nx.ka nx.K.length nx.kc)).setCell ⟨bm, 1, none⟩ (.string (txt nx.R))).setCell ⟨bm, 2, none⟩ (.slice nx.na nx.N.length nx.nc) = W7 at *
          have hbd : Below W7.heap.size W7 W7.drew := (Below.refl _ _).drew
          replace hD7 := hD7.newQ hbd
          replace hS7 := hS7.new hbd
          clear hbd
          generalize W7.drew = W8 at *
          have HLN := Lib.hid ((HP.out.2.2.2.2.2.1.rest ps HEQ.out.1 HEQ.out.2.2).1.mono (show ii ≤ ii + 1 by omega))
          have HMN := Lib.hid ((HMD.out nx HEQ.out.1 HEQ.out.2.1 HEQ.out.2.2).mono (show B ≤ B + (13 + text.length) by omega) (show ii ≤ ii + 1 by omega))
          clear hD5 hS5 hD6 hS6 hdn5 hin5 hq5 hh5 hdn6 hin6 hc6 hrp P26 P17 P13 P25 HMD
          have d50 := hD7.dw.c0
          have d51 := hD7.dw.c1
          have d52 := hD7.dw.c2
          go_wp2_with (first
            | (go_at_call 20; (with_reducible refine (P20.out _ _ hS7).mono ?_); rintro e w7 ⟨rfl, hw7⟩; subst w7)
            | (go_at_call 28; (with_reducible refine (P28.out _ _ _ _ hD7 hS7 ⟨HEQ.out.1, HEQ.out.2.1, HEQ.out.2.2, HLN.out⟩).mono ?_); rintro e wz ⟨rfl, hbz⟩))
          go_ret
          exact ⟨false, rfl, fun _ => ⟨HF.out, HNN.out⟩, (hD7.newQ hbz).below⟩
      | false =>
        have HNN : Hid (¬ NoClash (texts xs)) := Lib.hid fun hT => hw1 hT (by have h1 := HRC.out; cases h2 : rcol s.K ps with | none => rfl | some K9 => rw [h2] at h1; cases h1)
        go_wp2_with (first
          | (at_builtin; refine wpList_app rfl (.tmp 120) (.tmp 123) rfl W1.heap.size (.slice v3 pk.length c3) pk rfl hO (some ⟨w3.heap.size, 0, none⟩) 1 [text] 1 rfl rfl (HT1.out w3) (fun e => by cases e) (by simp; omega) (by have := hb3.size; simp; omega) ?_; intro a4 c4 w4 o4 h4; rw [hpse] at o4 ⊢; have hbk : Below W1.heap.size W1 w4 := (hb3.alloc hb3.size _).trans (h4.below (by have := hb3.size; simp; omega) fun k hk e => by have := (hr3.own k e).1; omega); have hk := (sl_of o4).rd; have q0 := (HP.out.1.newQ hbk).dw.c0; have q1 := (HP.out.1.newQ hbk).dw.c1; have q2 := (HP.out.1.newQ hbk).dw.c2)
          | (go_at_call 26; (with_reducible refine (P26.out _ _ _ hk hbk).mono ?_); rintro e w5 ⟨nx, he, eK, eR, eN, hrp, V5, Q5, hV5, hD5, hS5, hdn5, hin5, hq5, hh5, -⟩; rw [HRC.out] at he; subst he; subst hV5; have HEQ := Lib.hid (And.intro eK (And.intro eR eN)); clear eK eR eN)
          | (go_at_call 20; (with_reducible refine (P20a.out _ _ hS5).mono ?_); rintro e w6 ⟨rfl, hw6⟩; subst w6)
          | (go_at_call 17; (with_reducible refine (P17.out _ _ _ _ hD5 hS5 hrp).mono ?_); rintro e w6 ⟨⟨-, hz⟩, hD6, hc6⟩; replace hz := hz rest hw0; rw [e0, eA] at hz; obtain ⟨rfl, hS6⟩ := hz)
        )
        go_ret
        exact ⟨false, rfl, fun _ => ⟨HF.out, HNN.out⟩, hD6.below⟩
    · cases q with
      | true =>
        have HDN : Hid (a.out.down = true) := Lib.hid rfl
        have P20 : Hid (∀ V Q2, Str V sb d a.out (a.colL l rest) (GQ w bw bm Q2) → Calls Tryz.prog 20 #[.pointer (some ⟨sb, 0, none⟩)] V fun e w' => e = .returned (.bool true) ∧ w' = V) := Lib.hid fun V Q2 h => by have h9 := down_call h; rwa [HDN.out] at h9
        have HMD := Lib.hid hmd
        clear hmd
        go_wp2_with (first
          | (at_builtin; refine wpList_app rfl (.tmp 120) (.tmp 123) rfl W1.heap.size (.slice v3 pk.length c3) pk rfl hO (some ⟨w3.heap.size, 0, none⟩) 1 [text] 1 rfl rfl (HT1.out w3) (fun e => by cases e) (by simp; omega) (by have := hb3.size; simp; omega) ?_; intro a4 c4 w4 o4 h4; rw [hpse] at o4 ⊢; have hbk : Below W1.heap.size W1 w4 := (hb3.alloc hb3.size _).trans (h4.below (by have := hb3.size; simp; omega) fun k hk e => by have := (hr3.own k e).1; omega); have hk := (sl_of o4).rd; have q0 := (HP.out.1.newQ hbk).dw.c0; have q1 := (HP.out.1.newQ hbk).dw.c1; have q2 := (HP.out.1.newQ hbk).dw.c2)
          | (go_at_call 26; (with_reducible refine (P26.out _ _ _ hk hbk).mono ?_); rintro e w5 ⟨nx, he, eK, eR, eN, hrp, V5, Q5, hV5, hD5, hS5, hdn5, hin5, hq5, hh5, -⟩; rw [HRC.out] at he; subst he; subst hV5; have HEQ := Lib.hid (And.intro eK (And.intro eR eN)); clear eK eR eN)
          | (go_at_call 20; (with_reducible refine (P20a.out _ _ hS5).mono ?_); rintro e w6 ⟨rfl, hw6⟩; subst w6)
          | (go_at_call 17; (with_reducible refine (P17.out _ _ _ _ hD5 hS5 hrp).mono ?_); rintro e w6 ⟨⟨-, hz⟩, hD6, hc6⟩; replace hz := hz rest hw0; rw [e0, eA] at hz; obtain ⟨rfl, hS6⟩ := hz; have hdn6 := hdn5.keep hc6 (fun e => e.2.2.2 hq5); have hin6 := hin5.keep hc6 (fun k hk e => e.2.2.2 hk); have n0 : w6.cell? ⟨w5.heap.size, 0, none⟩ = some (.slice nx.ka nx.K.length nx.kc) := hdn6.c0; have n1 : w6.cell? ⟨w5.heap.size, 1, none⟩ = some (.string (txt nx.R)) := hdn6.c1; have n2 : w6.cell? ⟨w5.heap.size, 2, none⟩ = some (.slice nx.na nx.N.length nx.nc) := hdn6.c2; have om0 := hD6.dm.c0; have om1 := hD6.dm.c1; have om2 := hD6.dm.c2; have omf0 := hD6.dm.fr 0; have omf1 := hD6.dm.fr 1; have omf2 := hD6.dm.fr 2; obtain ⟨Q7, hD7, hS7⟩ := maybe_step hD6 hS6 hin6 (.slice nx.ka nx.K.length nx.kc) (.string (txt nx.R)) (.slice nx.na nx.N.length nx.nc) rfl)
          | (go_at_call 20; (with_reducible refine (P20.out _ _ hS7).mono ?_); rintro e w7 ⟨rfl, hw7⟩; subst w7)
        )
        go_roundw
        case rel => exact ⟨ii + 1, sb, a.out, a.colL l rest, s, nx, _, by go_num, by omega, rfl, Lib.hid (by rw [HBT.out]; exact ⟨hD7, hS7, (HP.out.2.2.2.2.2.1.rest ps HEQ.out.1 HEQ.out.2.2).2.mono (by omega), (HMD.out nx HEQ.out.1 HEQ.out.2.1 HEQ.out.2.2).mono (by omega) (by omega), HRL.out⟩)⟩
        case measure => simp [intOf]; omega
      | false =>
        have HNN : Hid (¬ NoClash (texts xs)) := Lib.hid fun hT => hw1 hT (by have h1 := HRC.out; cases h2 : rcol s.K ps with | none => rfl | some K9 => rw [h2] at h1; cases h1)
        go_wp2_with (first
          | (at_builtin; refine wpList_app rfl (.tmp 120) (.tmp 123) rfl W1.heap.size (.slice v3 pk.length c3) pk rfl hO (some ⟨w3.heap.size, 0, none⟩) 1 [text] 1 rfl rfl (HT1.out w3) (fun e => by cases e) (by simp; omega) (by have := hb3.size; simp; omega) ?_; intro a4 c4 w4 o4 h4; rw [hpse] at o4 ⊢; have hbk : Below W1.heap.size W1 w4 := (hb3.alloc hb3.size _).trans (h4.below (by have := hb3.size; simp; omega) fun k hk e => by have := (hr3.own k e).1; omega); have hk := (sl_of o4).rd; have q0 := (HP.out.1.newQ hbk).dw.c0; have q1 := (HP.out.1.newQ hbk).dw.c1; have q2 := (HP.out.1.newQ hbk).dw.c2)
          | (go_at_call 26; (with_reducible refine (P26.out _ _ _ hk hbk).mono ?_); rintro e w5 ⟨nx, he, eK, eR, eN, hrp, V5, Q5, hV5, hD5, hS5, hdn5, hin5, hq5, hh5, -⟩; rw [HRC.out] at he; subst he; subst hV5; have HEQ := Lib.hid (And.intro eK (And.intro eR eN)); clear eK eR eN)
          | (go_at_call 20; (with_reducible refine (P20a.out _ _ hS5).mono ?_); rintro e w6 ⟨rfl, hw6⟩; subst w6)
          | (go_at_call 17; (with_reducible refine (P17.out _ _ _ _ hD5 hS5 hrp).mono ?_); rintro e w6 ⟨⟨-, hz⟩, hD6, hc6⟩; replace hz := hz rest hw0; rw [e0, eA] at hz; obtain ⟨rfl, hS6⟩ := hz)
        )
        go_ret
        exact ⟨false, rfl, fun _ => ⟨HF.out, HNN.out⟩, hD6.below⟩

set_option maxRecDepth 100000 in
set_option maxHeartbeats 16000000 in
theorem arm_COLLECT_DN_T {w wr : World} {a0 : Option Addr} {c : Nat} {xs : List Xa} {rm : Int} {d bw bm sb0 : Nat} (HR : Hid (RdA w a0 xs ∧ 0 < w.heap.size ∧ (Fine xs → rmA xs ≤ 2100 * xs.length))) (HRM : Hid (((2000 + rmA xs : Nat) : Int) = rm)) (HF : Hid (Fine xs)) (hx40 : (xs.length : Int) ≤ 40) (K : Act → World → Prop) {u2 u12 u13 u14 u15 u16 u17 u18 u19 u20 u21 u22 u47 u48 u49 u50 u51 u52 u53 u54 u55 u56 u57 u58 u59 u60 u61 u62 u63 u64 u65 u66 u67 u68 u69 u70 u71 u72 u73 u74 u75 u76 u77 u78 u79 u80 u81 u82 u83 u84 u85 u86 u87 u88 u89 u90 u91 u92 u93 u94 u95 u96 u97 u98 u99 u100 u101 u102 u103 u104 u105 u106 u107 u108 u109 u110 u111 u112 u113 u114 u115 u116 u117 u118 u119 u120 u121 u122 u123 u124 u125 u126 u127 u128 u129 u130 u131 u132 u133 u134 u135 u136 u137 u138 u139 u140 u141 u142 u143 u144 u145 u146 u147 u148 u149 u150 u151 u152 u153 u154 u155 u156 u157 u158 u159 u160 u161 u162 u163 u164 u165 u166 u167 u168 u169 u170 u171 u172 u173 u174 u175 u176 u177 u178 u179 u180 u181 u182 u183 u184 u185 u186 u187 u188 u189 u190 u191 u192 u193 u194 u195 u196 u197 u198 u199 u200 u201 u202 u203 u204 u205 u206 u207 u208 u209 u210 u211 u212 u213 u214 u215 u216 u217 u218 u219 u220 u221 u222 u223 u224 : Value} {ii sb : Nat} {a : Ab} {l : Lg} {s m : DS} {Q : Nat → Prop} (HI : Hid (RR w wr (texts xs) bw bm sb d a l s m Q (13 + bsA (xs.take ii)) ii rm)) (hlt : ii < xs.length) (hcase : xs[ii].ac.what = 3) (hdn : a.down = true) (hraw : xs[ii].ac.raw = true) :
    Code.wp Tryz.prog runsBody (Exit.then (fun a' w' => (∃ u2 u7 u12 u13 u14 u15 u16 u17 u18 u19 u20 u21 u22 u46 u47 u48 u49 u50 u51 u52 u53 u54 u55 u56 u57 u58 u59 u60 u61 u62 u63 u64 u65 u66 u67 u68 u69 u70 u71 u72 u73 u74 u75 u76 u77 u78 u79 u80 u81 u82 u83 u84 u85 u86 u87 u88 u89 u90 u91 u92 u93 u94 u95 u96 u97 u98 u99 u100 u101 u102 u103 u104 u105 u106 u107 u108 u109 u110 u111 u112 u113 u114 u115 u116 u117 u118 u119 u120 u121 u122 u123 u124 u125 u126 u127 u128 u129 u130 u131 u132 u133 u134 u135 u136 u137 u138 u139 u140 u141 u142 u143 u144 u145 u146 u147 u148 u149 u150 u151 u152 u153 u154 u155 u156 u157 u158 u159 u160 u161 u162 u163 u164 u165 u166 u167 u168 u169 u170 u171 u172 u173 u174 u175 u176 u177 u178 u179 u180 u181 u182 u183 u184 u185 u186 u187 u188 u189 u190 u191 u192 u193 u194 u195 u196 u197 u198 u199 u200 u201 u202 u203 u204 u205 u206 u207 u208 u209 u210 u211 u212 u213 u214 u215 u216 u217 u218 u219 u220 u221 u222 u223 u224 : Value, (∃ (ii sb : Nat) (a : Ab) (l : Lg) (s m : DS) (Q : Nat → Prop), u46 = Value.int IntKind.i64 (ii : Int) ∧ ii ≤ xs.length ∧ u7 = Value.pointer (some { block := sb, off := 0 }) ∧ Hid (RR w w' (texts xs) bw bm sb d a l s m Q (13 + bsA (List.take ii xs)) ii rm)) ∧ a' = { tmps := (List.toArray (Value.slice a0 xs.length c :: undef :: u2 :: Value.int IntKind.i64 rm :: Value.bool true :: Value.pointer (some { block := d, off := 0 }) :: Value.int IntKind.i64 0 :: u7 :: Value.int IntKind.i64 0 :: Value.pointer (some { block := bw, off := 0 }) :: Value.pointer (some { block := bm, off := 0 }) :: undef :: u12 :: u13 :: u14 :: u15 :: u16 :: u17 :: u18 :: u19 :: u20 :: u21 :: u22 :: Value.tuple #[Value.int IntKind.i64 rm, Value.bool true] :: Value.slice a0 xs.length c :: Value.tuple #[Value.int IntKind.i64 rm, Value.bool true] :: Value.int IntKind.i64 rm :: Value.bool true :: Value.bool true :: Value.bool false :: Value.tuple #[Value.pointer (some { block := d, off := 0 }), Value.int IntKind.i64 0] :: Value.int IntKind.i64 rm :: Value.tuple #[Value.pointer (some { block := d, off := 0 }), Value.int IntKind.i64 0] :: Value.pointer (some { block := d, off := 0 }) :: Value.int IntKind.i64 0 :: Value.tuple #[Value.pointer (some { block := sb0, off := 0 }), Value.int IntKind.i64 0] :: Value.pointer (some { block := d, off := 0 }) :: Value.tuple #[Value.pointer (some { block := sb0, off := 0 }), Value.int IntKind.i64 0] :: Value.pointer (some { block := sb0, off := 0 }) :: Value.int IntKind.i64 0 :: Value.int IntKind.i64 0 :: Value.bool false :: Value.agg #[Value.slice none 0 0, Value.string { data := #[] }, Value.slice none 0 0] :: Value.agg #[Value.slice none 0 0, Value.string { data := #[] }, Value.slice none 0 0] :: Value.slice a0 xs.length c :: Value.int IntKind.i64 (xs.length : Int) :: u46 :: u47 :: u48 :: u49 :: u50 :: u51 :: u52 :: u53 :: u54 :: u55 :: u56 :: u57 :: u58 :: u59 :: u60 :: u61 :: u62 :: u63 :: u64 :: u65 :: u66 :: u67 :: u68 :: u69 :: u70 :: u71 :: u72 :: u73 :: u74 :: u75 :: u76 :: u77 :: u78 :: u79 :: u80 :: u81 :: u82 :: u83 :: u84 :: u85 :: u86 :: u87 :: u88 :: u89 :: u90 :: u91 :: u92 :: u93 :: u94 :: u95 :: u96 :: u97 :: u98 :: u99 :: u100 :: u101 :: u102 :: u103 :: u104 :: u105 :: u106 :: u107 :: u108 :: u109 :: u110 :: u111 :: u112 :: u113 :: u114 :: u115 :: u116 :: u117 :: u118 :: u119 :: u120 :: u121 :: u122 :: u123 :: u124 :: u125 :: u126 :: u127 :: u128 :: u129 :: u130 :: u131 :: u132 :: u133 :: u134 :: u135 :: u136 :: u137 :: u138 :: u139 :: u140 :: u141 :: u142 :: u143 :: u144 :: u145 :: u146 :: u147 :: u148 :: u149 :: u150 :: u151 :: u152 :: u153 :: u154 :: u155 :: u156 :: u157 :: u158 :: u159 :: u160 :: u161 :: u162 :: u163 :: u164 :: u165 :: u166 :: u167 :: u168 :: u169 :: u170 :: u171 :: u172 :: u173 :: u174 :: u175 :: u176 :: u177 :: u178 :: u179 :: u180 :: u181 :: u182 :: u183 :: u184 :: u185 :: u186 :: u187 :: u188 :: u189 :: u190 :: u191 :: u192 :: u193 :: u194 :: u195 :: u196 :: u197 :: u198 :: u199 :: u200 :: u201 :: u202 :: u203 :: u204 :: u205 :: u206 :: u207 :: u208 :: u209 :: u210 :: u211 :: u212 :: u213 :: u214 :: u215 :: u216 :: u217 :: u218 :: u219 :: u220 :: u221 :: u222 :: u223 :: u224 :: [])), defers := [] }) ∧ xs.length - (intOf (a'.tmps.getD 46 undef)).toNat < xs.length - (intOf ((List.toArray (Value.slice a0 xs.length c :: undef :: u2 :: Value.int IntKind.i64 rm :: Value.bool true :: Value.pointer (some { block := d, off := 0 }) :: Value.int IntKind.i64 0 :: Value.pointer (some { block := sb, off := 0 }) :: Value.int IntKind.i64 0 :: Value.pointer (some { block := bw, off := 0 }) :: Value.pointer (some { block := bm, off := 0 }) :: undef :: u12 :: u13 :: u14 :: u15 :: u16 :: u17 :: u18 :: u19 :: u20 :: u21 :: u22 :: Value.tuple #[Value.int IntKind.i64 rm, Value.bool true] :: Value.slice a0 xs.length c :: Value.tuple #[Value.int IntKind.i64 rm, Value.bool true] :: Value.int IntKind.i64 rm :: Value.bool true :: Value.bool true :: Value.bool false :: Value.tuple #[Value.pointer (some { block := d, off := 0 }), Value.int IntKind.i64 0] :: Value.int IntKind.i64 rm :: Value.tuple #[Value.pointer (some { block := d, off := 0 }), Value.int IntKind.i64 0] :: Value.pointer (some { block := d, off := 0 }) :: Value.int IntKind.i64 0 :: Value.tuple #[Value.pointer (some { block := sb0, off := 0 }), Value.int IntKind.i64 0] :: Value.pointer (some { block := d, off := 0 }) :: Value.tuple #[Value.pointer (some { block := sb0, off := 0 }), Value.int IntKind.i64 0] :: Value.pointer (some { block := sb0, off := 0 }) :: Value.int IntKind.i64 0 :: Value.int IntKind.i64 0 :: Value.bool false :: Value.agg #[Value.slice none 0 0, Value.string { data := #[] }, Value.slice none 0 0] :: Value.agg #[Value.slice none 0 0, Value.string { data := #[] }, Value.slice none 0 0] :: Value.slice a0 xs.length c :: Value.int IntKind.i64 (xs.length : Int) :: Value.int IntKind.i64 (ii : Int) :: u47 :: u48 :: u49 :: u50 :: u51 :: u52 :: u53 :: u54 :: u55 :: u56 :: u57 :: u58 :: u59 :: u60 :: u61 :: u62 :: u63 :: u64 :: u65 :: u66 :: u67 :: u68 :: u69 :: u70 :: u71 :: u72 :: u73 :: u74 :: u75 :: u76 :: u77 :: u78 :: u79 :: u80 :: u81 :: u82 :: u83 :: u84 :: u85 :: u86 :: u87 :: u88 :: u89 :: u90 :: u91 :: u92 :: u93 :: u94 :: u95 :: u96 :: u97 :: u98 :: u99 :: u100 :: u101 :: u102 :: u103 :: u104 :: u105 :: u106 :: u107 :: u108 :: u109 :: u110 :: u111 :: u112 :: u113 :: u114 :: u115 :: u116 :: u117 :: u118 :: u119 :: u120 :: u121 :: u122 :: u123 :: u124 :: u125 :: u126 :: u127 :: u128 :: u129 :: u130 :: u131 :: u132 :: u133 :: u134 :: u135 :: u136 :: u137 :: u138 :: u139 :: u140 :: u141 :: u142 :: u143 :: u144 :: u145 :: u146 :: u147 :: u148 :: u149 :: u150 :: u151 :: u152 :: u153 :: u154 :: u155 :: u156 :: u157 :: u158 :: u159 :: u160 :: u161 :: u162 :: u163 :: u164 :: u165 :: u166 :: u167 :: u168 :: u169 :: u170 :: u171 :: u172 :: u173 :: u174 :: u175 :: u176 :: u177 :: u178 :: u179 :: u180 :: u181 :: u182 :: u183 :: u184 :: u185 :: u186 :: u187 :: u188 :: u189 :: u190 :: u191 :: u192 :: u193 :: u194 :: u195 :: u196 :: u197 :: u198 :: u199 :: u200 :: u201 :: u202 :: u203 :: u204 :: u205 :: u206 :: u207 :: u208 :: u209 :: u210 :: u211 :: u212 :: u213 :: u214 :: u215 :: u216 :: u217 :: u218 :: u219 :: u220 :: u221 :: u222 :: u223 :: u224 :: [])).getD 46 undef)).toNat) (Exit.inBlock 0 (Exit.then K (bodyPost Tryz.prog Tryz.f7 fun e w' => ∃ b, e = Ending.returned (Value.bool b) ∧ (b = false → Fine xs ∧ ¬NoClash (texts xs)) ∧ Below w.heap.size w w')))) { tmps := (List.toArray (Value.slice a0 xs.length c :: undef :: u2 :: Value.int IntKind.i64 rm :: Value.bool true :: Value.pointer (some { block := d, off := 0 }) :: Value.int IntKind.i64 0 :: Value.pointer (some { block := sb, off := 0 }) :: Value.int IntKind.i64 0 :: Value.pointer (some { block := bw, off := 0 }) :: Value.pointer (some { block := bm, off := 0 }) :: undef :: u12 :: u13 :: u14 :: u15 :: u16 :: u17 :: u18 :: u19 :: u20 :: u21 :: u22 :: Value.tuple #[Value.int IntKind.i64 rm, Value.bool true] :: Value.slice a0 xs.length c :: Value.tuple #[Value.int IntKind.i64 rm, Value.bool true] :: Value.int IntKind.i64 rm :: Value.bool true :: Value.bool true :: Value.bool false :: Value.tuple #[Value.pointer (some { block := d, off := 0 }), Value.int IntKind.i64 0] :: Value.int IntKind.i64 rm :: Value.tuple #[Value.pointer (some { block := d, off := 0 }), Value.int IntKind.i64 0] :: Value.pointer (some { block := d, off := 0 }) :: Value.int IntKind.i64 0 :: Value.tuple #[Value.pointer (some { block := sb0, off := 0 }), Value.int IntKind.i64 0] :: Value.pointer (some { block := d, off := 0 }) :: Value.tuple #[Value.pointer (some { block := sb0, off := 0 }), Value.int IntKind.i64 0] :: Value.pointer (some { block := sb0, off := 0 }) :: Value.int IntKind.i64 0 :: Value.int IntKind.i64 0 :: Value.bool false :: Value.agg #[Value.slice none 0 0, Value.string { data := #[] }, Value.slice none 0 0] :: Value.agg #[Value.slice none 0 0, Value.string { data := #[] }, Value.slice none 0 0] :: Value.slice a0 xs.length c :: Value.int IntKind.i64 (xs.length : Int) :: Value.int IntKind.i64 (ii : Int) :: u47 :: u48 :: u49 :: u50 :: u51 :: u52 :: u53 :: u54 :: u55 :: u56 :: u57 :: u58 :: u59 :: u60 :: u61 :: u62 :: u63 :: u64 :: u65 :: u66 :: u67 :: u68 :: u69 :: u70 :: u71 :: u72 :: u73 :: u74 :: u75 :: u76 :: u77 :: u78 :: u79 :: u80 :: u81 :: u82 :: u83 :: u84 :: u85 :: u86 :: u87 :: u88 :: u89 :: u90 :: u91 :: u92 :: u93 :: u94 :: u95 :: u96 :: u97 :: u98 :: u99 :: u100 :: u101 :: u102 :: u103 :: u104 :: u105 :: u106 :: u107 :: u108 :: u109 :: u110 :: u111 :: u112 :: u113 :: u114 :: u115 :: u116 :: u117 :: u118 :: u119 :: u120 :: u121 :: u122 :: u123 :: u124 :: u125 :: u126 :: u127 :: u128 :: u129 :: u130 :: u131 :: u132 :: u133 :: u134 :: u135 :: u136 :: u137 :: u138 :: u139 :: u140 :: u141 :: u142 :: u143 :: u144 :: u145 :: u146 :: u147 :: u148 :: u149 :: u150 :: u151 :: u152 :: u153 :: u154 :: u155 :: u156 :: u157 :: u158 :: u159 :: u160 :: u161 :: u162 :: u163 :: u164 :: u165 :: u166 :: u167 :: u168 :: u169 :: u170 :: u171 :: u172 :: u173 :: u174 :: u175 :: u176 :: u177 :: u178 :: u179 :: u180 :: u181 :: u182 :: u183 :: u184 :: u185 :: u186 :: u187 :: u188 :: u189 :: u190 :: u191 :: u192 :: u193 :: u194 :: u195 :: u196 :: u197 :: u198 :: u199 :: u200 :: u201 :: u202 :: u203 :: u204 :: u205 :: u206 :: u207 :: u208 :: u209 :: u210 :: u211 :: u212 :: u213 :: u214 :: u215 :: u216 :: u217 :: u218 :: u219 :: u220 :: u221 :: u222 :: u223 :: u224 :: [])), defers := [] } wr := by
  conv => arg 2; whnf
  have hlt' : (ii : Int) < (xs.length : Int) := by omega
  have hi0 : (0 : Int) ≤ (ii : Int) := by omega
  have hi40 : ii < 40 := by omega
  obtain ⟨⟨b, off, rfl, k0, k1, k2, k3, k4⟩, hpk, hpkb, hok⟩ := (HR.out.1.keep HI.out.di.below) ii hlt
  have hmem := List.getElem_mem hlt
  have hfx := HF.out.2 _ hmem
  have hinT : xs[ii].ac.text ∈ texts xs := List.mem_map.2 ⟨_, hmem, rfl⟩
  have hpkb0 := (HR.out.1 ii hlt).2.2.1
  have hbt := bsA_take hlt
  have hbl := bsA_le xs (ii + 1)
  have hb3 := bsA_rm xs
  have hrmf := HR.out.2.2 HF.out
  generalize xs[ii] = x at *
  obtain ⟨⟨what, n, text, picks, raw⟩, ka, kc⟩ := x
  dsimp only at hcase hraw
  simp only at k0 k1 k2 k3 k4 hpk hpkb hok hfx hinT hpkb0 hbt
  have hroom : (3 * (13 + bsA (xs.take (ii + 1)) : Nat) + 1000 : Int) ≤ rm := by rw [← HRM.out]; omega
  have hB40 : 13 + bsA (xs.take (ii + 1)) ≤ 40000 := by omega
  rw [show 13 + bsA (xs.take (ii + 1)) = 13 + bsA (xs.take ii) + (13 + text.length) by omega] at hroom hB40
  have HBT : Hid (13 + bsA (xs.take (ii + 1)) = 13 + bsA (xs.take ii) + (13 + text.length)) := Lib.hid (by omega)
  generalize 13 + bsA (xs.take ii) = B at *
  have HA := Lib.hid (And.intro hfx (And.intro hinT (And.intro hpkb0 (And.intro hroom (And.intro hB40 (And.intro hok hi40))))))
  have hnb := hok.1
  have hwb := hok.2.1
  -- the act's own block
  have hB1 : Below wr.heap.size wr (wr.alloc (.cells #[.int .i64 what, .int .i64 n, .string (txt text), .slice ka picks.length kc, .bool raw] 51)) := (Below.refl _ _).alloc (Nat.le_refl _) _
  have hDI := HI.out.di.new hB1
  have hST := HI.out.di.str HI.out.str (Ch.of_new hB1)
  have hAC : (wr.alloc (.cells #[.int .i64 what, .int .i64 n, .string (txt text), .slice ka picks.length kc, .bool raw] 51)).heap[wr.heap.size]? = some (.cells #[.int .i64 what, .int .i64 n, .string (txt text), .slice ka picks.length kc, .bool raw] 51 (0, 0)) := heap_alloc_new wr _
  have hQA : More Q wr (wr.alloc (.cells #[.int .i64 what, .int .i64 n, .string (txt text), .slice ka picks.length kc, .bool raw] 51)) wr.heap.size := .inr ⟨Nat.le_refl _, by simp⟩
  have hPK := hpk
  have HP := Lib.hid (And.intro hDI (And.intro hST (And.intro hAC (And.intro hQA (And.intro (RdI_keep hPK (Ch.of_new (S := fun _ => False) hB1) fun _ _ _ => id) (And.intro HI.out.li (And.intro HI.out.md HI.out.room)))))))
  clear hDI hST hAC hQA hPK hpk hpkb hok hfx hinT hpkb0 hroom hB40 hB1 hmem hbt hbl hb3 hrmf
  go_upto_region 13 with fail
  generalize hW1 : wr.alloc (.cells #[.int .i64 what, .int .i64 n, .string (txt text), .slice ka picks.length kc, .bool raw] 51) = W1 at *
  have HW1 := Lib.hid hW1
  generalize More Q wr W1 = Q1 at *
  generalize wr.heap.size = ba at *
  have hT500 : ∀ x ∈ texts xs, x.length ≤ 500 := fun x hx => by obtain ⟨y, hy, rfl⟩ := List.mem_map.1 hx; exact (HF.out.2 y hy).1
  have HT := Lib.hid hT500
  clear hT500
  have f0 : W1.cell? ⟨ba, 0, none⟩ = some (.int .i64 what) := cell_of_row _ _ 0 _ _ _ HP.out.2.2.1
  have hq0 : (what == 0) = false := by rw [hcase]; rfl
  have hq1 : (what == 1) = false := by rw [hcase]; rfl
  have hq2 : (what == 2) = false := by rw [hcase]; rfl
  subst hcase
  clear hwb
  have c2 : W1.cell? ⟨ba, 2, none⟩ = some (.string (txt text)) := cell_of_row _ _ 2 _ _ _ HP.out.2.2.1
  have c3 : W1.cell? ⟨ba, 3, none⟩ = some (.slice ka picks.length kc) := cell_of_row _ _ 3 _ _ _ HP.out.2.2.1
  have c4 : W1.cell? ⟨ba, 4, none⟩ = some (.bool raw) := cell_of_row _ _ 4 _ _ _ HP.out.2.2.1
  have hl5 := HA.out.1.1
  have HC := Lib.hid (And.intro c2 (And.intro c3 c4))
  have HFW := Lib.hid (HP.out.2.2.2.2.2.2.1.few (by omega) (by have := HA.out.2.2.2.2.1; omega)).1
  have P13 : Hid (∀ V, Below W1.heap.size W1 V → Calls Tryz.prog 13 #[.pointer (some ⟨sb, 0, none⟩)] V fun e w' => ∃ v c, e = .returned (.slice v (a.kept.map (·.1)).length c) ∧ RdT w' v (a.kept.map (·.1)) ∧ Below W1.heap.size W1 w') := Lib.hid fun V hV => (prints_call (HP.out.2.1.new hV) (by have := HFW.out; omega)).mono (by rintro e w' ⟨v, c, h1, h2, h3⟩; exact ⟨v, c, h1, h2, hV.trans (h3.mono hV.size)⟩)
  have P25 : Hid (∀ V v c, RdT V v (a.kept.map (·.1)) → Below W1.heap.size W1 V → Calls Tryz.prog 25 #[.slice v (a.kept.map (·.1)).length c, .slice ka picks.length kc] V fun e w' => ∃ b d, e = .returned (.slice b (pickL (a.kept.map (·.1)) picks).length d) ∧ OwT w' W1.heap.size (.slice b (pickL (a.kept.map (·.1)) picks).length d) (pickL (a.kept.map (·.1)) picks) ∧ Below W1.heap.size W1 w') := Lib.hid fun V v c h1 hV => (lprints_any h1 (by rw [List.length_map]; have := HFW.out; omega) (RdI_keep HP.out.2.2.2.2.1 (Ch.of_new (S := fun _ => False) hV) fun _ _ _ => id) (by have := HA.out.1.2; omega)).mono (by rintro e w' ⟨b, d, h2, h3, h4⟩; exact ⟨b, d, h2, ⟨h3.1, h3.2.imp id fun ⟨g, cap, cur, hv, hb, r⟩ => ⟨g, cap, cur, hv, Nat.le_trans hV.size hb, r⟩⟩, hV.trans (h4.mono hV.size)⟩)
  clear c2 c4
  have HKO : Hid (∀ p ∈ pickL (a.kept.map (·.1)) picks, p.length ≤ 1000) := Lib.hid fun p hp => by obtain ⟨q, hq, rfl⟩ := List.mem_map.1 (pickL_mem hp); have h9 := (HP.out.2.2.2.2.2.2.1.few (by omega) (by have := HA.out.2.2.2.2.1; omega)).2.1; rw [(h9 q hq).1, sha_len]; omega
  have HPL : Hid ((pickL (a.kept.map (·.1)) picks).length ≤ 40) := Lib.hid (Nat.le_trans (pickL_len _ _) HA.out.1.2)
  generalize a.kept.map (·.1) = kp at *
  generalize pickL kp picks = pk at *
  have hbd : Below W1.heap.size W1 W1.drew := (Below.refl _ _).drew
  have c3k : ∀ V, Below W1.heap.size W1 V → V.cell? ⟨ba, 3, none⟩ = some (.slice ka picks.length kc) := fun V hV => by have := HC.out.2.1; exact cell_of_row _ _ 3 _ _ _ (hold_row HP.out.2.2.1 (HP.out.1.hold (Ch.of_new hV)) HP.out.2.2.2.1)
  have C3K := Lib.hid c3k
  have CK : Hid (∀ V, Below W1.heap.size W1 V → V.cell? ⟨ba, 2, none⟩ = some (.string (txt text)) ∧ V.cell? ⟨ba, 4, none⟩ = some (.bool raw)) := Lib.hid fun V hV => ⟨cell_of_row _ _ 2 _ _ _ (hold_row HP.out.2.2.1 (HP.out.1.hold (Ch.of_new hV)) HP.out.2.2.2.1), cell_of_row _ _ 4 _ _ _ (hold_row HP.out.2.2.1 (HP.out.1.hold (Ch.of_new hV)) HP.out.2.2.2.1)⟩
  clear c3k
  have HBD := Lib.hid hbd
  clear hbd
  subst hraw
  go_upto_region 38 with fail
  go_region_held3 (fun V => V.cell? ⟨ba, 3, none⟩ = some (.slice ka picks.length kc)) (first | exact C3K.out _ hb3 | exact C3K.out _ hb2 | exact C3K.out _ HBD.out | skip) (first
    | (go_at_call 13; (with_reducible refine (P13.out _ HBD.out).mono ?_); rintro e w2 ⟨v2, c2, rfl, hr2, hb2⟩)
    | (go_at_call 25; (with_reducible refine (P25.out _ _ _ hr2 hb2).mono ?_); rintro e w3 ⟨v3, c3, rfl, hr3, hb3⟩))
  obtain ⟨g2, g4⟩ := CK.out _ hb3
  obtain ⟨ps, hpse⟩ : ∃ ps, pk ++ [text] = ps := ⟨_, rfl⟩
  have HPS : Hid (ps.length ≤ 41 ∧ ∀ p ∈ ps, p.length ≤ 1000) := Lib.hid ⟨by have := HPL.out; rw [← hpse, List.length_append, List.length_singleton]; omega, by rw [← hpse]; intro p hp; rcases List.mem_append.1 hp with hp | hp; (· exact HKO.out p hp); (· rw [List.mem_singleton.1 hp]; omega)⟩
  have hO := hr3.new ((Below.refl w3.heap.size w3).alloc (Nat.le_refl _) (.cells #[.string (txt text)] 9))
  have HT1 := Lib.hid (fun W => one_rd W text)
  have hpl := HPL.out
  generalize txt text = tt at *
  have P26 : Hid (∀ V pa pc, RdT V pa ps → Below W1.heap.size W1 V → Calls Tryz.prog 26 #[.agg #[.slice s.ka s.K.length s.kc, .string (txt s.R), .slice s.na s.N.length s.nc], .slice pa ps.length pc] V fun e w' => ∃ nx : DS, e = .returned (.tuple #[.agg #[.slice nx.ka nx.K.length nx.kc, .string (txt nx.R), .slice nx.na nx.N.length nx.nc], .bool (rcol s.K ps).isSome]) ∧
        nx.K = (rcol s.K ps).getD s.K ∧ nx.R = s.R ∧ nx.N = s.N ∧ RdT (w'.alloc (.cells #[.slice nx.ka nx.K.length nx.kc, .string (txt nx.R), .slice nx.na nx.N.length nx.nc] 49)) pa ps ∧
        ∃ V2 Q2, V2 = w'.alloc (.cells #[.slice nx.ka nx.K.length nx.kc, .string (txt nx.R), .slice nx.na nx.N.length nx.nc] 49) ∧ DI w V2 bw bm s m Q2 ∧ Str V2 sb d a l (GQ w bw bm Q2) ∧ DAt V2 w'.heap.size nx ∧ nx.In V2 Q2 ∧ Q2 w'.heap.size ∧ Hold Q1 V V2 ∧ (∀ k, Q1 k → Q2 k)) := Lib.hid fun V pa pc h1 h2 => rcollect_call (HP.out.1.newQ h2) (HP.out.2.1.new h2) HP.out.2.2.2.2.2.1 HT.out (by omega) pa pc ps h1 (by have := HPS.out.1; omega)
  have P20 : Hid (∀ V Q2, Str V sb d a l (GQ w bw bm Q2) → Calls Tryz.prog 20 #[.pointer (some ⟨sb, 0, none⟩)] V fun e w' => e = .returned (.bool true) ∧ w' = V) := Lib.hid fun V Q2 h => by have h9 := down_call h; rwa [hdn] at h9
  have HRD := Lib.hid (Md.restd HP.out.2.2.2.2.2.2.1 hdn HP.out.2.2.2.2.2.1 ps)
  obtain ⟨q, hrc⟩ : ∃ q, (rcol s.K ps).isSome = q := ⟨_, rfl⟩
  obtain ⟨r, hrs⟩ : ∃ r, (restOf a.kept ps).isSome = r := ⟨_, rfl⟩
  have HRC := Lib.hid hrc
  have HRS := Lib.hid hrs
  clear hrc hrs
  cases r with
  | true =>
    have P17 : Hid (∀ V Q2 pa pc, DI w V bw bm s m Q2 → Str V sb d a l (GQ w bw bm Q2) → RdT V pa ps → Calls Tryz.prog 17 #[.pointer (some ⟨sb, 0, none⟩), .slice pa ps.length pc] V fun e w' => e = .returned (.int .i64 3) ∧ Str w' sb d a l (GQ w bw bm Q2) ∧ DI w w' bw bm s m Q2) := Lib.hid fun V Q2 pa pc h1 h2 h3 => (collect_calld h1 h2 HP.out.2.2.2.2.2.2.1 hdn (by omega) (by have := HA.out.2.2.2.2.1; omega) pa pc ps h3 HPS.out.2 (by have := HPS.out.1; omega)).mono (by rintro e w' ⟨he, h⟩; exact ⟨by rw [he, HRS.out]; rfl, h⟩)
    cases q with
    | true =>
      go_wp2_with (first
        | (at_builtin; refine wpList_app rfl (.tmp 120) (.tmp 123) rfl W1.heap.size (.slice v3 pk.length c3) pk rfl hO (some ⟨w3.heap.size, 0, none⟩) 1 [text] 1 rfl rfl (HT1.out w3) (fun e => by cases e) (by simp; omega) (by have := hb3.size; simp; omega) ?_; intro a4 c4 w4 o4 h4; rw [hpse] at o4 ⊢; have hbk : Below W1.heap.size W1 w4 := (hb3.alloc hb3.size _).trans (h4.below (by have := hb3.size; simp; omega) fun k hk e => by have := (hr3.own k e).1; omega); have hk := (sl_of o4).rd; have q0 := (HP.out.1.newQ hbk).dw.c0; have q1 := (HP.out.1.newQ hbk).dw.c1; have q2 := (HP.out.1.newQ hbk).dw.c2)
        | (go_at_call 26; (with_reducible refine (P26.out _ _ _ hk hbk).mono ?_); rintro e w5 ⟨nx, he, eK, eR, eN, hrp, V5, Q5, hV5, hD5, hS5, hdn5, hin5, hq5, hh5, -⟩; rw [HRC.out] at he; subst he; subst hV5; have HEQ := Lib.hid (And.intro eK (And.intro eR eN)); clear eK eR eN)
        | (go_at_call 17; (with_reducible refine (P17.out _ _ _ _ hD5 hS5 hrp).mono ?_); rintro e w6 ⟨rfl, hS6, hD6⟩)
        | (go_at_call 20; (with_reducible refine (P20.out _ _ hS6).mono ?_); rintro e w7 ⟨rfl, hw7⟩; subst w7)
        | (go_at_call 20; (with_reducible refine (P20.out _ _ hS5).mono ?_); rintro e w7 ⟨rfl, hw7⟩; subst w7)
      )
      go_roundw
      case rel => exact ⟨ii + 1, sb, a, l, s, m, _, by go_num, by omega, rfl, Lib.hid (by rw [HBT.out]; exact ⟨hD6, hS6, HP.out.2.2.2.2.2.1.mono (by omega), HP.out.2.2.2.2.2.2.1.mono (by omega) (by omega), HP.out.2.2.2.2.2.2.2⟩)⟩
      case measure => simp [intOf]; omega
    | false =>
      go_wp2_with (first
        | (at_builtin; refine wpList_app rfl (.tmp 120) (.tmp 123) rfl W1.heap.size (.slice v3 pk.length c3) pk rfl hO (some ⟨w3.heap.size, 0, none⟩) 1 [text] 1 rfl rfl (HT1.out w3) (fun e => by cases e) (by simp; omega) (by have := hb3.size; simp; omega) ?_; intro a4 c4 w4 o4 h4; rw [hpse] at o4 ⊢; have hbk : Below W1.heap.size W1 w4 := (hb3.alloc hb3.size _).trans (h4.below (by have := hb3.size; simp; omega) fun k hk e => by have := (hr3.own k e).1; omega); have hk := (sl_of o4).rd; have q0 := (HP.out.1.newQ hbk).dw.c0; have q1 := (HP.out.1.newQ hbk).dw.c1; have q2 := (HP.out.1.newQ hbk).dw.c2)
        | (go_at_call 26; (with_reducible refine (P26.out _ _ _ hk hbk).mono ?_); rintro e w5 ⟨nx, he, eK, eR, eN, hrp, V5, Q5, hV5, hD5, hS5, hdn5, hin5, hq5, hh5, -⟩; rw [HRC.out] at he; subst he; subst hV5; have HEQ := Lib.hid (And.intro eK (And.intro eR eN)); clear eK eR eN)
        | (go_at_call 17; (with_reducible refine (P17.out _ _ _ _ hD5 hS5 hrp).mono ?_); rintro e w6 ⟨rfl, hS6, hD6⟩)
        | (go_at_call 20; (with_reducible refine (P20.out _ _ hS6).mono ?_); rintro e w7 ⟨rfl, hw7⟩; subst w7)
        | (go_at_call 20; (with_reducible refine (P20.out _ _ hS5).mono ?_); rintro e w7 ⟨rfl, hw7⟩; subst w7)
      )
      go_roundw
      case rel => exact ⟨ii + 1, sb, a, l, s, m, _, by go_num, by omega, rfl, Lib.hid (by rw [HBT.out]; exact ⟨hD6, hS6, HP.out.2.2.2.2.2.1.mono (by omega), HP.out.2.2.2.2.2.2.1.mono (by omega) (by omega), HP.out.2.2.2.2.2.2.2⟩)⟩
      case measure => simp [intOf]; omega
  | false =>
    have P17 : Hid (∀ V Q2 pa pc, DI w V bw bm s m Q2 → Str V sb d a l (GQ w bw bm Q2) → RdT V pa ps → Calls Tryz.prog 17 #[.pointer (some ⟨sb, 0, none⟩), .slice pa ps.length pc] V fun e w' => e = .returned (.int .i64 6) ∧ Str w' sb d a l (GQ w bw bm Q2) ∧ DI w w' bw bm s m Q2) := Lib.hid fun V Q2 pa pc h1 h2 h3 => (collect_calld h1 h2 HP.out.2.2.2.2.2.2.1 hdn (by omega) (by have := HA.out.2.2.2.2.1; omega) pa pc ps h3 HPS.out.2 (by have := HPS.out.1; omega)).mono (by rintro e w' ⟨he, h⟩; exact ⟨by rw [he, HRS.out]; rfl, h⟩)
    cases q with
    | true =>
      have HNN : Hid (¬ NoClash (texts xs)) := Lib.hid fun hT => by have h1 := HRD.out hT; rw [HRS.out, HRC.out] at h1; cases h1
      go_wp2_with (first
        | (at_builtin; refine wpList_app rfl (.tmp 120) (.tmp 123) rfl W1.heap.size (.slice v3 pk.length c3) pk rfl hO (some ⟨w3.heap.size, 0, none⟩) 1 [text] 1 rfl rfl (HT1.out w3) (fun e => by cases e) (by simp; omega) (by have := hb3.size; simp; omega) ?_; intro a4 c4 w4 o4 h4; rw [hpse] at o4 ⊢; have hbk : Below W1.heap.size W1 w4 := (hb3.alloc hb3.size _).trans (h4.below (by have := hb3.size; simp; omega) fun k hk e => by have := (hr3.own k e).1; omega); have hk := (sl_of o4).rd; have q0 := (HP.out.1.newQ hbk).dw.c0; have q1 := (HP.out.1.newQ hbk).dw.c1; have q2 := (HP.out.1.newQ hbk).dw.c2)
        | (go_at_call 26; (with_reducible refine (P26.out _ _ _ hk hbk).mono ?_); rintro e w5 ⟨nx, he, eK, eR, eN, hrp, V5, Q5, hV5, hD5, hS5, hdn5, hin5, hq5, hh5, -⟩; rw [HRC.out] at he; subst he; subst hV5; have HEQ := Lib.hid (And.intro eK (And.intro eR eN)); clear eK eR eN)
        | (go_at_call 17; (with_reducible refine (P17.out _ _ _ _ hD5 hS5 hrp).mono ?_); rintro e w6 ⟨rfl, hS6, hD6⟩)
        | (go_at_call 20; (with_reducible refine (P20.out _ _ hS6).mono ?_); rintro e w7 ⟨rfl, hw7⟩; subst w7)
        | (go_at_call 20; (with_reducible refine (P20.out _ _ hS5).mono ?_); rintro e w7 ⟨rfl, hw7⟩; subst w7)
      )
      go_ret
      exact ⟨false, rfl, fun _ => ⟨HF.out, HNN.out⟩, hD6.below⟩
    | false =>
      go_wp2_with (first
        | (at_builtin; refine wpList_app rfl (.tmp 120) (.tmp 123) rfl W1.heap.size (.slice v3 pk.length c3) pk rfl hO (some ⟨w3.heap.size, 0, none⟩) 1 [text] 1 rfl rfl (HT1.out w3) (fun e => by cases e) (by simp; omega) (by have := hb3.size; simp; omega) ?_; intro a4 c4 w4 o4 h4; rw [hpse] at o4 ⊢; have hbk : Below W1.heap.size W1 w4 := (hb3.alloc hb3.size _).trans (h4.below (by have := hb3.size; simp; omega) fun k hk e => by have := (hr3.own k e).1; omega); have hk := (sl_of o4).rd; have q0 := (HP.out.1.newQ hbk).dw.c0; have q1 := (HP.out.1.newQ hbk).dw.c1; have q2 := (HP.out.1.newQ hbk).dw.c2)
        | (go_at_call 26; (with_reducible refine (P26.out _ _ _ hk hbk).mono ?_); rintro e w5 ⟨nx, he, eK, eR, eN, hrp, V5, Q5, hV5, hD5, hS5, hdn5, hin5, hq5, hh5, -⟩; rw [HRC.out] at he; subst he; subst hV5; have HEQ := Lib.hid (And.intro eK (And.intro eR eN)); clear eK eR eN)
        | (go_at_call 17; (with_reducible refine (P17.out _ _ _ _ hD5 hS5 hrp).mono ?_); rintro e w6 ⟨rfl, hS6, hD6⟩)
        | (go_at_call 20; (with_reducible refine (P20.out _ _ hS6).mono ?_); rintro e w7 ⟨rfl, hw7⟩; subst w7)
        | (go_at_call 20; (with_reducible refine (P20.out _ _ hS5).mono ?_); rintro e w7 ⟨rfl, hw7⟩; subst w7)
      )
      go_roundw
      case rel => exact ⟨ii + 1, sb, a, l, s, m, _, by go_num, by omega, rfl, Lib.hid (by rw [HBT.out]; exact ⟨hD6, hS6, HP.out.2.2.2.2.2.1.mono (by omega), HP.out.2.2.2.2.2.2.1.mono (by omega) (by omega), HP.out.2.2.2.2.2.2.2⟩)⟩
      case measure => simp [intOf]; omega
end Go.Proofs.YtogihpofkjpokaaGreatDoor
