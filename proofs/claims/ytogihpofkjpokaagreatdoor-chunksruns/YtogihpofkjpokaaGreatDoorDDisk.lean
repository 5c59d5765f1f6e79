/- The program's disk as it lies in memory: what it says, what keeps it, what turns it. -/
import Derived.Test.YtogihpofkjpokaaGreatDoorDNames
import Derived.Test.YtogihpofkjpokaaGreatDoorShelf
namespace Go.Proofs.YtogihpofkjpokaaGreatDoor.D4
open Go Go.RowKit Go.Maps

/-- append of a text leaves its result where the slice lay, or in a new block. -/
theorem append_block_text {w : World} {base : Nat} {v : Value} {n : Nat} {xs : List Value} (hown : w.ownsRow base 5 1 v n xs) (s : ByteArray) (hn : n + s.size ≤ 140737488355328) {ty : TypeId} {v' : Value} {w' : World}
    (hrun : (Builtin.append_ #[110, 9] ty #[v, .string s]).run Tryz.prog w = .ok v' w') : v'.ownBlock = v.ownBlock ∨ v'.ownBlock = some w.heap.size := by
  obtain ⟨i0, hi, hz0, hz1, hz2⟩ := info_parts Tryz.info5
  have hxl : xs.length = n := by simpa using hown.1
  rcases hown.2 with ⟨rfl, rfl⟩ | ⟨g, cap, cur, rfl, hbg, hg, hnc, hcm, hcs, htake⟩
  · by_cases hm : s.size = 0
    · have hf := Lib.run_firstCells_string (P := Tryz.prog) w 1 s
      rw [hm] at hf
      have hr : (Builtin.append_ #[110, 9] ty #[.slice none 0 0, .string s]).run Tryz.prog w = .ok (.slice none 0 0) w := by
        simp [Builtin.append_, run_underlying Tryz.underlying110, run_underlying Tryz.underlying9, sizeOf, typeInfo, hi, hz1, Builtin.lenOf, hm, hf]
      rw [hr] at hrun
      injection hrun with h1 h2
      exact .inl (by rw [← h1])
    · have hr := run_append_nil_string (P := Tryz.prog) w 110 9 ty 5 i0 (.int .u8 0) Tryz.underlying110 Tryz.underlying9 hi hz0 s (by omega) (by omega) (by rw [hz2]; omega)
      rw [hr] at hrun
      injection hrun with h1 h2
      exact .inr (by rw [← h1]; rfl)
  · by_cases hroom : n + s.size ≤ cap
    · have hr := Lib.run_append_room_string (P := Tryz.prog) w 110 9 ty 5 i0 Tryz.underlying110 Tryz.underlying9 hi hz1 g n cap cur hg s hroom (by omega)
      rw [hr] at hrun
      injection hrun with h1 h2
      exact .inl (by rw [← h1]; rfl)
    · have holds : ∀ j u, xs[j]? = some u → w.cell? ((⟨g, 0, none⟩ : Addr).add j) = some u := hown.cells (g := g) rfl
      have hr := Lib.run_append_grow_string (P := Tryz.prog) w 110 9 ty 5 i0 (.int .u8 0) Tryz.underlying110 Tryz.underlying9 hi hz0 ⟨g, 0, none⟩ n cap xs (by rw [hz1]; simpa using hxl) holds s (by omega) (by omega) (by rw [hz2]; exact growslice_fits (by omega) (by omega))
      rw [hr] at hrun
      injection hrun with h1 h2
      exact .inr (by rw [← h1]; rfl)

/-- A file as it lies: its block, its slice, its bytes, how many are sure. -/
structure F where
  blk : Nat
  v : Value
  data : List UInt8
  sure : Nat
/-- A disk as it lies. -/
structure S where
  room : Int
  used : Int
  m : Option Nat
  down : Bool
  lim : Bool
  fuel : Int
  fs : List (List UInt8 × F)
def total (l : List (List UInt8 × F)) : Nat := (l.map fun p => p.2.data.length).sum
def S.cells (s : S) : Array Value := #[.int .i64 s.room, .int .i64 s.used, .map s.m, .bool s.down, .bool s.lim, .int .i64 s.fuel]
/-- A file's own memory. -/
def File (w : World) (f : F) : Prop := w.heap[f.blk]? = some (.cells #[f.v, .int .i64 (f.sure : Int)] 112 (0, 0)) ∧ OwB w 0 f.v f.data ∧ f.sure ≤ f.data.length
def Far (p q : List UInt8 × F) : Prop := p.2.blk ≠ q.2.blk ∧ ∀ k, p.2.v.ownBlock = some k → q.2.v.ownBlock ≠ some k
structure At (w : World) (d : Nat) (s : S) : Prop where
  blk : w.heap[d]? = some (.cells s.cells 62 (0, 0))
  map : ∀ b, s.m = some b → w.ownsMap Tryz.prog 9 rdP b s.fs.length (dat (on F.blk s.fs))
  nomap : s.m = none → s.fs = []
  asc : Asc s.fs
  names : ∀ p ∈ s.fs, nameB p.1 = true
  file : ∀ p ∈ s.fs, File w p.2
  far : s.fs.Pairwise Far
  used : s.used = (total s.fs : Int)
  most : total s.fs ≤ 1073741824
  room : 0 ≤ s.room ∧ s.room ≤ 1073741824
  fuel : -9223372036854775808 ≤ s.fuel ∧ s.fuel ≤ 9223372036854775807
/-- Its blocks. -/
def Foot (d : Nat) (s : S) (k : Nat) : Prop := k = d ∨ s.m = some k ∨ ∃ p ∈ s.fs, k = p.2.blk ∨ p.2.v.ownBlock = some k

theorem lt_of_heap {w : World} {k : Nat} {o : Obj} (h : w.heap[k]? = some o) : k < w.heap.size := (Array.getElem?_eq_some_iff.1 h).1
theorem _root_.Go.Proofs.YtogihpofkjpokaaGreatDoor.OwB.obj {w : World} {base : Nat} {v : Value} {l : List UInt8} (h : OwB w base v l) {k : Nat} (hk : v.ownBlock = some k) : ∃ cur, w.heap[k]? = some (.cells cur 5 (0, 0)) := by
  rcases h.2 with ⟨hv, _⟩ | ⟨g, cap, cur, hv, hb, hg, _⟩
  · rw [hv] at hk; cases hk
  · rw [hv] at hk; cases hk; exact ⟨cur, hg⟩
theorem File.keep {P : Nat → Prop} {w w' : World} {f : F} (h : File w f) (hc : Ch P w w') (h1 : ¬ P f.blk) (h2 : ∀ k, f.v.ownBlock = some k → ¬ P k) : File w' f :=
  ⟨(hc.block _ (lt_of_heap h.1) h1).trans h.1, h.2.1.keep hc h2, h.2.2⟩
theorem ownsMap_keep {P : Nat → Prop} {w w' : World} {b n : Nat} {D : DataW Nat} (h : w.ownsMap Tryz.prog 9 rdP b n D) (hc : Ch P w w') (hs : ¬ P b) : w'.ownsMap Tryz.prog 9 rdP b n D := by
  have hlt := h.lt
  obtain ⟨es, clock, hb, F, hs', hD⟩ := h
  exact ⟨es, clock, (hc.block b hlt hs).trans hb, F, hs', hD⟩
theorem ownsMap_obj {w : World} {b n : Nat} {D : DataW Nat} (h : w.ownsMap Tryz.prog 9 rdP b n D) : ∃ es clock, w.heap[b]? = some (.map es clock) := by
  obtain ⟨es, clock, hb, _⟩ := h
  exact ⟨es, clock, hb⟩
theorem ownsMap_tight {w : World} {b n : Nat} {D : DataW Nat} (h : w.ownsMap Tryz.prog 9 rdP b n D) : w.ownsMap Tryz.prog 9 rdP b (Maps.size D) D := by
  obtain ⟨es, clock, hb, F, hs, rfl⟩ := h
  exact ⟨es, clock, hb, F, by rw [Maps.size_eq, length_read]; exact Nat.le_refl _, rfl⟩

section
variable {w w' : World} {d : Nat} {s : S}
theorem At.lt (h : At w d s) {k : Nat} (hk : Foot d s k) : k < w.heap.size := by
  rcases hk with rfl | hk | ⟨p, hp, rfl | hk⟩
  · exact lt_of_heap h.blk
  · exact (h.map k hk).lt
  · exact lt_of_heap (h.file p hp).1
  · exact ((h.file p hp).2.1.own k hk).2
theorem At.keep {P : Nat → Prop} (h : At w d s) (hc : Ch P w w') (hs : ∀ k, Foot d s k → ¬ P k) : At w' d s where
  blk := (hc.block d (lt_of_heap h.blk) (hs d (.inl rfl))).trans h.blk
  map := fun b hb => ownsMap_keep (h.map b hb) hc (hs b (.inr (.inl hb)))
  nomap := h.nomap
  asc := h.asc
  names := h.names
  file := fun p hp => (h.file p hp).keep hc (hs _ (.inr (.inr ⟨p, hp, .inl rfl⟩))) fun k hk => hs k (.inr (.inr ⟨p, hp, .inr hk⟩))
  far := h.far
  used := h.used
  most := h.most
  room := h.room
  fuel := h.fuel
theorem At.new (h : At w d s) (hb : Below w.heap.size w w') : At w' d s := h.keep (Ch.of_new (S := fun _ => False) hb) fun _ _ => id
/-- The disk's block is none of the others. -/
theorem At.map_ne (h : At w d s) {b : Nat} (hb : s.m = some b) : b ≠ d := fun e => by
  obtain ⟨es, c, hm⟩ := ownsMap_obj (h.map b hb)
  rw [e, h.blk] at hm; cases hm
theorem At.file_ne (h : At w d s) {p : List UInt8 × F} (hp : p ∈ s.fs) : p.2.blk ≠ d := fun e => by
  have := (h.file p hp).1
  rw [e, h.blk] at this
  injection this with this
  injection this with _ h2
  cases h2
theorem At.data_ne (h : At w d s) {p : List UInt8 × F} (hp : p ∈ s.fs) {k : Nat} (hk : p.2.v.ownBlock = some k) : k ≠ d := fun e => by
  obtain ⟨cur, hc⟩ := (h.file p hp).2.1.obj hk
  rw [e, h.blk] at hc
  injection hc with hc
  injection hc with _ h2
  cases h2
theorem At.map_file (h : At w d s) {b : Nat} (hb : s.m = some b) {p : List UInt8 × F} (hp : p ∈ s.fs) : p.2.blk ≠ b := fun e => by
  obtain ⟨es, c, hm⟩ := ownsMap_obj (h.map b hb)
  have := (h.file p hp).1
  rw [e, hm] at this; cases this
theorem At.map_data (h : At w d s) {b : Nat} (hb : s.m = some b) {p : List UInt8 × F} (hp : p ∈ s.fs) {k : Nat} (hk : p.2.v.ownBlock = some k) : k ≠ b := fun e => by
  obtain ⟨es, c, hm⟩ := ownsMap_obj (h.map b hb)
  obtain ⟨cur, hc⟩ := (h.file p hp).2.1.obj hk
  rw [e, hm] at hc; cases hc
theorem At.file_data (h : At w d s) {p q : List UInt8 × F} (hp : p ∈ s.fs) (hq : q ∈ s.fs) {k : Nat} (hk : q.2.v.ownBlock = some k) : p.2.blk ≠ k := fun e => by
  obtain ⟨cur, hc⟩ := (h.file q hq).2.1.obj hk
  have := (h.file p hp).1
  rw [e, hc] at this
  injection this with this
  injection this with _ h2
  cases h2
/-- The disk's own cells turned. -/
theorem At.head (h : At w d s) {s' : S} (hw : w'.heap[d]? = some (.cells s'.cells 62 (0, 0))) (hc : Ch (fun k => k = d) w w') (hm : s'.m = s.m) (hf : s'.fs = s.fs) (hu : s'.used = s.used)
    (hr : 0 ≤ s'.room ∧ s'.room ≤ 1073741824) (hfu : -9223372036854775808 ≤ s'.fuel ∧ s'.fuel ≤ 9223372036854775807) : At w' d s' where
  blk := hw
  map := fun b hb => by rw [hf]; rw [hm] at hb; exact ownsMap_keep (h.map b hb) hc (h.map_ne hb)
  nomap := fun e => by rw [hf]; exact h.nomap (hm ▸ e)
  asc := hf ▸ h.asc
  names := hf ▸ h.names
  file := fun p hp => by rw [hf] at hp; exact (h.file p hp).keep hc (h.file_ne hp) fun k hk => h.data_ne hp hk
  far := hf ▸ h.far
  used := by rw [hu, hf]; exact h.used
  most := hf ▸ h.most
  room := hr
  fuel := hfu
end
theorem Foot.head {d : Nat} {s s' : S} (hm : s'.m = s.m) (hf : s'.fs = s.fs) {k : Nat} (h : Foot d s' k) : Foot d s k := by
  unfold Foot at *; rwa [hm, hf] at h

/-! what is told of a disk -/
structure Lg where
  room : Int
  down : Bool
  lim : Bool
  fuel : Int
  fs : List (List UInt8 × (List UInt8 × Nat))
def F.lg (f : F) : List UInt8 × Nat := (f.data, f.sure)
def S.lg (s : S) : Lg := ⟨s.room, s.down, s.lim, s.fuel, on F.lg s.fs⟩
def Lg.used (l : Lg) : Nat := (l.fs.map fun p => p.2.1.length).sum
theorem used_lg (s : S) : s.lg.used = total s.fs := by
  unfold Lg.used S.lg total on
  simp only [List.map_map]
  rfl
/-- A disk that says this, within these blocks. -/
def Dk (w : World) (d : Nat) (l : Lg) (G : Nat → Prop) : Prop := ∃ s, At w d s ∧ s.lg = l ∧ ∀ k, Foot d s k → G k
/-- What is new beside G. -/
def More (G : Nat → Prop) (w w' : World) : Nat → Prop := fun k => G k ∨ (w.heap.size ≤ k ∧ k < w'.heap.size)
theorem Dk.keep {P G : Nat → Prop} {w w' : World} {d : Nat} {l : Lg} (h : Dk w d l G) (hc : Ch P w w') (hs : ∀ k, G k → ¬ P k) : Dk w' d l G := by
  obtain ⟨s, hA, hl, hG⟩ := h
  exact ⟨s, hA.keep hc fun k hk => hs k (hG k hk), hl, hG⟩
theorem Dk.new {G : Nat → Prop} {w w' : World} {d : Nat} {l : Lg} (h : Dk w d l G) (hb : Below w.heap.size w w') : Dk w' d l G := h.keep (Ch.of_new (S := fun _ => False) hb) fun _ _ => id
theorem Dk.mono {G G' : Nat → Prop} {w : World} {d : Nat} {l : Lg} (h : Dk w d l G) (hG : ∀ k, k < w.heap.size → G k → G' k) : Dk w d l G' := by
  obtain ⟨s, hA, hl, hF⟩ := h
  exact ⟨s, hA, hl, fun k hk => hG k (hA.lt hk) (hF k hk)⟩
end Go.Proofs.YtogihpofkjpokaaGreatDoor.D4
