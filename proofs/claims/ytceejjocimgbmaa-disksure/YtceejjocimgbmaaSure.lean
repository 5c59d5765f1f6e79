/- The walk of the law DiskSure. -/
import Derived.Test.YtceejjocimgbmaaAwake
namespace Go.Proofs.Ytceejjocimgbmaa
open Go Go.RowKit Go.Maps

/-- A disk with one file, behind k appends. -/
def lgS (k : Nat) (a : List UInt8) (su : Nat) : Lg := ⟨100000, false, false, 0, if k = 0 then [] else [([102], (a, su))]⟩
theorem nameS : nameB [102] = true := by decide
theorem lgS_len (k : Nat) (a : List UInt8) (su : Nat) : (lgS k a su).fs.length ≤ 1 := by
  show (if k = 0 then [] else [([102], (a, su))] : List (List UInt8 × (List UInt8 × Nat))).length ≤ 1
  split <;> simp
theorem lgS_used {k : Nat} {a : List UInt8} {su : Nat} (h0 : k = 0 → a = []) : (lgS k a su).used = a.length := by
  unfold lgS Lg.used
  by_cases h : k = 0
  · simp [h, h0 h]
  · simp [h]
theorem lgS_app {k : Nat} {a : List UInt8} {su : Nat} (t : List UInt8) (h0 : k = 0 → a = []) (h1 : su ≤ a.length) (hl : a.length + t.length ≤ 100000) : (lgS k a su).app [102] t = lgS (k + 1) (a ++ t) su ∧ (lgS k a su).appC [102] t = 0 := by
  have hr : ¬ ((lgS k a su).room - ((lgS k a su).used : Int) < (t.length : Int)) := by
    rw [lgS_used h0]; show ¬ ((100000 : Int) - _ < _); omega
  unfold Lg.app Lg.appC
  rw [nameS, if_neg hr, if_neg hr]
  refine ⟨?_, rfl⟩
  show (⟨100000, false, false, 0, put [102] (((lgS k a su).old [102]).1 ++ t, ((lgS k a su).old [102]).2) (lgS k a su).fs⟩ : Lg) = _
  unfold lgS Lg.old
  by_cases h : k = 0
  · have e := h0 h
    subst e
    have : su = 0 := by simpa using h1
    simp [h, look, put, this]
  · simp [h, look, put]
theorem lgS_sync (k : Nat) (a : List UInt8) (su : Nat) : (lgS (k + 1) a su).sync [102] = lgS (k + 1) a a.length ∧ (lgS (k + 1) a su).syncC [102] = 0 := by
  have hf : (lgS (k + 1) a su).findC [102] = 0 := by
    unfold Lg.findC
    rw [nameS]
    simp [lgS, look]
  unfold Lg.sync Lg.syncC
  rw [hf, if_pos rfl, if_pos rfl]
  refine ⟨?_, rfl⟩
  show (⟨100000, false, false, 0, put [102] (((lgS (k + 1) a su).old [102]).1, ((lgS (k + 1) a su).old [102]).1.length) (lgS (k + 1) a su).fs⟩ : Lg) = _
  simp [lgS, Lg.old, look, put]
theorem lgS_fall (k : Nat) (a : List UInt8) (su : Nat) (n : Int) : (lgS k a su).fall [n] = lgS k (a.take (kept a.length su n)) (kept a.length su n) := by
  unfold Lg.fall lgS
  simp only
  congr 1
  by_cases h : k = 0
  · simp [h, fallN]
  · simp [h, fallN, fallP]
theorem lgS_read (k : Nat) (a : List UInt8) (su : Nat) : (lgS (k + 1) a su).findC [102] = 0 ∧ (lgS (k + 1) a su).readS [102] = a := by
  have hf : (lgS (k + 1) a su).findC [102] = 0 := by
    unfold Lg.findC
    rw [nameS]
    simp [lgS, look]
  unfold Lg.readS
  rw [hf, if_pos rfl]
  exact ⟨rfl, by simp [lgS, Lg.old, look]⟩
theorem lgS_none (a : List UInt8) (su : Nat) : (lgS 0 a su).findC [102] = 4 ∧ (lgS 0 a su).readS [102] = [] := by
  have hf : (lgS 0 a su).findC [102] = 4 := by
    unfold Lg.findC
    rw [nameS]
    simp [lgS, look]
  unfold Lg.readS
  rw [hf]
  exact ⟨rfl, rfl⟩
/-- Behind ii rounds. -/
structure SureI (w wr : World) (b ii : Nat) (s a : ByteArray) : Prop where
  ch : Ch (fun k => w.heap.size ≤ k) w wr
  le : b ≤ wr.heap.size
  base : w.heap.size ≤ b
  up : Up b wr b (lgS ii a.data.toList s.size)
theorem SureI.zero {ii : Nat} {a : ByteArray} (h : a.size ≤ 200 * ii) : ii = 0 → a.data.toList = [] := fun e => by
  subst e
  refine List.length_eq_zero_iff.1 ?_
  rw [size_data]; omega
theorem SureI.app {w wr : World} {b ii : Nat} {s a t : ByteArray} (h : SureI w wr b ii s a) (hs : s.size ≤ a.size) (ha : a.size ≤ 200 * ii) (hi : ii ≤ 20) (ht : t.size ≤ 200) :
    Calls Try.prog 10 #[dp b, .string ⟨#[102]⟩, .string t] wr fun e w' => e = .returned (.int .i64 0) ∧ SureI w w' b (ii + 1) s (a ++ t) := by
  have hl := lgS_app (k := ii) (a := a.data.toList) (su := s.size) t.data.toList (SureI.zero ha) (by rw [size_data]; exact hs) (by rw [size_data, size_data]; omega)
  refine (append_up h.up h.le ⟨#[102]⟩ t (Nat.lt_of_le_of_lt (lgS_len _ _ _) (by omega)) (by omega)).mono ?_
  rintro e w' ⟨rfl, hU, hc⟩
  rw [show (⟨#[102]⟩ : ByteArray).data.toList = [102] from rfl, hl.1] at hU
  rw [show (⟨#[102]⟩ : ByteArray).data.toList = [102] from rfl, hl.2]
  refine ⟨rfl, h.ch.tr (hc.mono fun k _ hk => Nat.le_trans h.base hk), Nat.le_trans h.le hc.size, h.base, ?_⟩
  rw [show (a ++ t).data.toList = a.data.toList ++ t.data.toList by simp]
  exact hU
theorem SureI.sync {w wr : World} {b ii : Nat} {s a : ByteArray} (h : SureI w wr b (ii + 1) s a) :
    Calls Try.prog 15 #[dp b, .string ⟨#[102]⟩] wr fun e w' => e = .returned (.int .i64 0) ∧ SureI w w' b (ii + 1) a a := by
  have hl := lgS_sync ii a.data.toList s.size
  refine (sync_up h.up ⟨#[102]⟩).mono ?_
  rintro e w' ⟨rfl, hU, hc⟩
  rw [show (⟨#[102]⟩ : ByteArray).data.toList = [102] from rfl, hl.1, size_data] at hU
  rw [show (⟨#[102]⟩ : ByteArray).data.toList = [102] from rfl, hl.2]
  exact ⟨rfl, h.ch.tr (hc.mono fun k _ hk => Nat.le_trans h.base hk), Nat.le_trans h.le hc.size, h.base, hU⟩
/-- What is read behind the fall. -/
def fellB (s a : ByteArray) (k : Int) : ByteArray := ⟨(a.data.toList.take (kept a.size s.size k)).toArray⟩
theorem fellB_size (s a : ByteArray) (k : Int) (h : s.size ≤ a.size) : (fellB s a k).size = kept a.size s.size k := by
  have := kept_le k h
  show (a.data.toList.take (kept a.size s.size k)).toArray.size = _
  rw [List.size_toArray, List.length_take, size_data]
  omega
theorem fellB_ext (s a : ByteArray) (k : Int) (h : s.size ≤ a.size) : a.extract 0 (fellB s a k).size = fellB s a k := by
  rw [fellB_size _ _ _ h]
  apply ByteArray.ext
  apply Array.ext'
  simp [fellB, ByteArray.data_extract]
end Go.Proofs.Ytceejjocimgbmaa
