/- SHA-256, plainly: over words of 32 bits and bytes told by their places. -/
import Derived.Test.YtfjlkphpeneahaaDoorAWords
namespace Go.Proofs.YtfjlkphpeneahaaDoor.S1
open Go

def ch (e f g : BitVec 32) : BitVec 32 := (e &&& f) ^^^ (~~~e &&& g)
def maj (a b c : BitVec 32) : BitVec 32 := (a &&& b) ^^^ (a &&& c) ^^^ (b &&& c)
def lo0 (x : BitVec 32) : BitVec 32 := rotr x 7 ^^^ rotr x 18 ^^^ (x >>> 3)
def lo1 (x : BitVec 32) : BitVec 32 := rotr x 17 ^^^ rotr x 19 ^^^ (x >>> 10)
def up0 (x : BitVec 32) : BitVec 32 := rotr x 2 ^^^ rotr x 13 ^^^ rotr x 22
def up1 (x : BitVec 32) : BitVec 32 := rotr x 6 ^^^ rotr x 11 ^^^ rotr x 25
/-- A byte as a word. -/
def wb (b : UInt8) : BitVec 32 := BitVec.ofNat 32 b.toNat
def word (m : Nat → UInt8) (t : Nat) : BitVec 32 :=
  ((wb (m (4 * t)) <<< 24 ||| wb (m (4 * t + 1)) <<< 16) ||| wb (m (4 * t + 2)) <<< 8) ||| wb (m (4 * t + 3))
/-- The words of a block. -/
def W (m : Nat → UInt8) (t : Nat) : BitVec 32 :=
  if t < 16 then word m t else W m (t - 16) + lo0 (W m (t - 15)) + W m (t - 7) + lo1 (W m (t - 2))
termination_by t
decreasing_by all_goals omega
theorem W_lo (m : Nat → UInt8) (t : Nat) (h : t < 16) : W m t = word m t := by rw [W, if_pos h]
theorem W_hi (m : Nat → UInt8) (t : Nat) (h : 16 ≤ t) : W m t = W m (t - 16) + lo0 (W m (t - 15)) + W m (t - 7) + lo1 (W m (t - 2)) := by
  rw [W, if_neg (by omega)]

structure St where
  a : BitVec 32
  b : BitVec 32
  c : BitVec 32
  d : BitVec 32
  e : BitVec 32
  f : BitVec 32
  g : BitVec 32
  h : BitVec 32
def rnd (k x : BitVec 32) (s : St) : St :=
  ⟨(s.h + up1 s.e + ch s.e s.f s.g + k + x) + (up0 s.a + maj s.a s.b s.c), s.a, s.b, s.c, s.d + (s.h + up1 s.e + ch s.e s.f s.g + k + x), s.e, s.f, s.g⟩
def rnds (K : Nat → BitVec 32) (m : Nat → UInt8) : Nat → St → St
  | 0, s => s
  | n + 1, s => rnd (K n) (W m n) (rnds K m n s)
def St.add (s t : St) : St := ⟨s.a + t.a, s.b + t.b, s.c + t.c, s.d + t.d, s.e + t.e, s.f + t.f, s.g + t.g, s.h + t.h⟩
def comp (K : Nat → BitVec 32) (m : Nat → UInt8) (s : St) : St := s.add (rnds K m 64 s)
/-- The state behind n blocks. -/
def run (K : Nat → BitVec 32) (m : Nat → UInt8) : Nat → St → St
  | 0, s => s
  | n + 1, s => comp K (fun j => m (64 * n + j)) (run K m n s)
/-- Words as the model's values. -/
def wv (x : BitVec 32) : Value := .int .u32 (u x)
def wvs (l : List (BitVec 32)) : Array Value := (l.map wv).toArray
def St.l (s : St) : List (BitVec 32) := [s.a, s.b, s.c, s.d, s.e, s.f, s.g, s.h]

theorem wvs_size (l : List (BitVec 32)) : (wvs l).size = l.length := by simp [wvs]
theorem wvs_get (l : List (BitVec 32)) (j : Nat) (h : j < l.length) : (wvs l)[j]? = some (.int .u32 (u (l.getD j 0))) := by
  simp [wvs, wv, h]
theorem wvs_set (l : List (BitVec 32)) (j : Nat) (x : BitVec 32) : (wvs l).setIfInBounds j (.int .u32 (u x)) = wvs (l.set j x) := by
  simp [wvs, wv, List.map_set]

end Go.Proofs.YtfjlkphpeneahaaDoor.S1
