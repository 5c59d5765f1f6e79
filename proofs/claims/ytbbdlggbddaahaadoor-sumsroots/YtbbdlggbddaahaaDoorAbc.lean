/- The fingerprint of the text abc, step by step. -/
import Derived.Test.YtbbdlggbddaahaaDoorWalkR
import Derived.Test.YtbbdlggbddaahaaDoorWalkC
import Derived.Test.YtbbdlggbddaahaaDoorWalkH
namespace Go.Proofs.YtbbdlggbddaahaaDoor
open Go
def ma : Nat → UInt8 := fun j => shaF [97, 98, 99] (64 * 0 + j)
theorem aw0 : W ma 0 = 1633837952#32 := by rw [W_lo _ _ (by decide)]; kernel_rfl
theorem aw1 : W ma 1 = 0#32 := by rw [W_lo _ _ (by decide)]; kernel_rfl
theorem aw2 : W ma 2 = 0#32 := by rw [W_lo _ _ (by decide)]; kernel_rfl
theorem aw3 : W ma 3 = 0#32 := by rw [W_lo _ _ (by decide)]; kernel_rfl
theorem aw4 : W ma 4 = 0#32 := by rw [W_lo _ _ (by decide)]; kernel_rfl
theorem aw5 : W ma 5 = 0#32 := by rw [W_lo _ _ (by decide)]; kernel_rfl
theorem aw6 : W ma 6 = 0#32 := by rw [W_lo _ _ (by decide)]; kernel_rfl
theorem aw7 : W ma 7 = 0#32 := by rw [W_lo _ _ (by decide)]; kernel_rfl
theorem aw8 : W ma 8 = 0#32 := by rw [W_lo _ _ (by decide)]; kernel_rfl
theorem aw9 : W ma 9 = 0#32 := by rw [W_lo _ _ (by decide)]; kernel_rfl
theorem aw10 : W ma 10 = 0#32 := by rw [W_lo _ _ (by decide)]; kernel_rfl
theorem aw11 : W ma 11 = 0#32 := by rw [W_lo _ _ (by decide)]; kernel_rfl
theorem aw12 : W ma 12 = 0#32 := by rw [W_lo _ _ (by decide)]; kernel_rfl
theorem aw13 : W ma 13 = 0#32 := by rw [W_lo _ _ (by decide)]; kernel_rfl
theorem aw14 : W ma 14 = 0#32 := by rw [W_lo _ _ (by decide)]; kernel_rfl
theorem aw15 : W ma 15 = 24#32 := by rw [W_lo _ _ (by decide)]; kernel_rfl
theorem aw16 : W ma 16 = 1633837952#32 := by
  rw [W_hi _ _ (by decide)]
  show W ma 0 + lo0 (W ma 1) + W ma 9 + lo1 (W ma 14) = _
  rw [aw0, aw1, aw9, aw14]
  kernel_rfl
theorem aw17 : W ma 17 = 983040#32 := by
  rw [W_hi _ _ (by decide)]
  show W ma 1 + lo0 (W ma 2) + W ma 10 + lo1 (W ma 15) = _
  rw [aw1, aw2, aw10, aw15]
  kernel_rfl
theorem aw18 : W ma 18 = 2108187653#32 := by
  rw [W_hi _ _ (by decide)]
  show W ma 2 + lo0 (W ma 3) + W ma 11 + lo1 (W ma 16) = _
  rw [aw2, aw3, aw11, aw16]
  kernel_rfl
theorem aw19 : W ma 19 = 1610613702#32 := by
  rw [W_hi _ _ (by decide)]
  show W ma 3 + lo0 (W ma 4) + W ma 12 + lo1 (W ma 17) = _
  rw [aw3, aw4, aw12, aw17]
  kernel_rfl
theorem aw20 : W ma 20 = 1050508152#32 := by
  rw [W_hi _ _ (by decide)]
  show W ma 4 + lo0 (W ma 5) + W ma 13 + lo1 (W ma 18) = _
  rw [aw4, aw5, aw13, aw18]
  kernel_rfl
theorem aw21 : W ma 21 = 25426944#32 := by
  rw [W_hi _ _ (by decide)]
  show W ma 5 + lo0 (W ma 6) + W ma 14 + lo1 (W ma 19) = _
  rw [aw5, aw6, aw14, aw19]
  kernel_rfl
theorem aw22 : W ma 22 = 316456923#32 := by
  rw [W_hi _ _ (by decide)]
  show W ma 6 + lo0 (W ma 7) + W ma 15 + lo1 (W ma 20) = _
  rw [aw6, aw7, aw15, aw20]
  kernel_rfl
theorem aw23 : W ma 23 = 3806512014#32 := by
  rw [W_hi _ _ (by decide)]
  show W ma 7 + lo0 (W ma 8) + W ma 16 + lo1 (W ma 21) = _
  rw [aw7, aw8, aw16, aw21]
  kernel_rfl
theorem aw24 : W ma 24 = 3357629466#32 := by
  rw [W_hi _ _ (by decide)]
  show W ma 8 + lo0 (W ma 9) + W ma 17 + lo1 (W ma 22) = _
  rw [aw8, aw9, aw17, aw22]
  kernel_rfl
theorem aw25 : W ma 25 = 3073800610#32 := by
  rw [W_hi _ _ (by decide)]
  show W ma 9 + lo0 (W ma 10) + W ma 18 + lo1 (W ma 23) = _
  rw [aw9, aw10, aw18, aw23]
  kernel_rfl
theorem aw26 : W ma 26 = 3854317833#32 := by
  rw [W_hi _ _ (by decide)]
  show W ma 10 + lo0 (W ma 11) + W ma 19 + lo1 (W ma 24) = _
  rw [aw10, aw11, aw19, aw24]
  kernel_rfl
theorem aw27 : W ma 27 = 845560923#32 := by
  rw [W_hi _ _ (by decide)]
  show W ma 11 + lo0 (W ma 12) + W ma 20 + lo1 (W ma 25) = _
  rw [aw11, aw12, aw20, aw25]
  kernel_rfl
theorem aw28 : W ma 28 = 2636160359#32 := by
  rw [W_hi _ _ (by decide)]
  show W ma 12 + lo0 (W ma 13) + W ma 21 + lo1 (W ma 26) = _
  rw [aw12, aw13, aw21, aw26]
  kernel_rfl
theorem aw29 : W ma 29 = 3968280267#32 := by
  rw [W_hi _ _ (by decide)]
  show W ma 13 + lo0 (W ma 14) + W ma 22 + lo1 (W ma 27) = _
  rw [aw13, aw14, aw22, aw27]
  kernel_rfl
theorem aw30 : W ma 30 = 1881225380#32 := by
  rw [W_hi _ _ (by decide)]
  show W ma 14 + lo0 (W ma 15) + W ma 23 + lo1 (W ma 28) = _
  rw [aw14, aw15, aw23, aw28]
  kernel_rfl
theorem aw31 : W ma 31 = 3552024379#32 := by
  rw [W_hi _ _ (by decide)]
  show W ma 15 + lo0 (W ma 16) + W ma 24 + lo1 (W ma 29) = _
  rw [aw15, aw16, aw24, aw29]
  kernel_rfl
theorem aw32 : W ma 32 = 2482346367#32 := by
  rw [W_hi _ _ (by decide)]
  show W ma 16 + lo0 (W ma 17) + W ma 25 + lo1 (W ma 30) = _
  rw [aw16, aw17, aw25, aw30]
  kernel_rfl
theorem aw33 : W ma 33 = 996719219#32 := by
  rw [W_hi _ _ (by decide)]
  show W ma 17 + lo0 (W ma 18) + W ma 26 + lo1 (W ma 31) = _
  rw [aw17, aw18, aw26, aw31]
  kernel_rfl
theorem aw34 : W ma 34 = 2952069057#32 := by
  rw [W_hi _ _ (by decide)]
  show W ma 18 + lo0 (W ma 19) + W ma 27 + lo1 (W ma 32) = _
  rw [aw18, aw19, aw27, aw32]
  kernel_rfl
theorem aw35 : W ma 35 = 4043988066#32 := by
  rw [W_hi _ _ (by decide)]
  show W ma 19 + lo0 (W ma 20) + W ma 28 + lo1 (W ma 33) = _
  rw [aw19, aw20, aw28, aw33]
  kernel_rfl
theorem aw36 : W ma 36 = 176896406#32 := by
  rw [W_hi _ _ (by decide)]
  show W ma 20 + lo0 (W ma 21) + W ma 29 + lo1 (W ma 34) = _
  rw [aw20, aw21, aw29, aw34]
  kernel_rfl
theorem aw37 : W ma 37 = 1924104970#32 := by
  rw [W_hi _ _ (by decide)]
  show W ma 21 + lo0 (W ma 22) + W ma 30 + lo1 (W ma 35) = _
  rw [aw21, aw22, aw30, aw35]
  kernel_rfl
theorem aw38 : W ma 38 = 2483675966#32 := by
  rw [W_hi _ _ (by decide)]
  show W ma 22 + lo0 (W ma 23) + W ma 31 + lo1 (W ma 36) = _
  rw [aw22, aw23, aw31, aw36]
  kernel_rfl
theorem aw39 : W ma 39 = 610538786#32 := by
  rw [W_hi _ _ (by decide)]
  show W ma 23 + lo0 (W ma 24) + W ma 32 + lo1 (W ma 37) = _
  rw [aw23, aw24, aw32, aw37]
  kernel_rfl
theorem aw40 : W ma 40 = 2672279444#32 := by
  rw [W_hi _ _ (by decide)]
  show W ma 24 + lo0 (W ma 25) + W ma 33 + lo1 (W ma 38) = _
  rw [aw24, aw25, aw33, aw38]
  kernel_rfl
theorem aw41 : W ma 41 = 4037431130#32 := by
  rw [W_hi _ _ (by decide)]
  show W ma 25 + lo0 (W ma 26) + W ma 34 + lo1 (W ma 39) = _
  rw [aw25, aw26, aw34, aw39]
  kernel_rfl
theorem aw42 : W ma 42 = 1042573945#32 := by
  rw [W_hi _ _ (by decide)]
  show W ma 26 + lo0 (W ma 27) + W ma 35 + lo1 (W ma 40) = _
  rw [aw26, aw27, aw35, aw40]
  kernel_rfl
theorem aw43 : W ma 43 = 657669027#32 := by
  rw [W_hi _ _ (by decide)]
  show W ma 27 + lo0 (W ma 28) + W ma 36 + lo1 (W ma 41) = _
  rw [aw27, aw28, aw36, aw41]
  kernel_rfl
theorem aw44 : W ma 44 = 206005234#32 := by
  rw [W_hi _ _ (by decide)]
  show W ma 28 + lo0 (W ma 29) + W ma 37 + lo1 (W ma 42) = _
  rw [aw28, aw29, aw37, aw42]
  kernel_rfl
theorem aw45 : W ma 45 = 2215296807#32 := by
  rw [W_hi _ _ (by decide)]
  show W ma 29 + lo0 (W ma 30) + W ma 38 + lo1 (W ma 43) = _
  rw [aw29, aw30, aw38, aw43]
  kernel_rfl
theorem aw46 : W ma 46 = 2049510749#32 := by
  rw [W_hi _ _ (by decide)]
  show W ma 30 + lo0 (W ma 31) + W ma 39 + lo1 (W ma 44) = _
  rw [aw30, aw31, aw39, aw44]
  kernel_rfl
theorem aw47 : W ma 47 = 106709978#32 := by
  rw [W_hi _ _ (by decide)]
  show W ma 31 + lo0 (W ma 32) + W ma 40 + lo1 (W ma 45) = _
  rw [aw31, aw32, aw40, aw45]
  kernel_rfl
theorem aw48 : W ma 48 = 4215179723#32 := by
  rw [W_hi _ _ (by decide)]
  show W ma 32 + lo0 (W ma 33) + W ma 41 + lo1 (W ma 46) = _
  rw [aw32, aw33, aw41, aw46]
  kernel_rfl
theorem aw49 : W ma 49 = 3430291419#32 := by
  rw [W_hi _ _ (by decide)]
  show W ma 33 + lo0 (W ma 34) + W ma 42 + lo1 (W ma 47) = _
  rw [aw33, aw34, aw42, aw47]
  kernel_rfl
theorem aw50 : W ma 50 = 3118885940#32 := by
  rw [W_hi _ _ (by decide)]
  show W ma 34 + lo0 (W ma 35) + W ma 43 + lo1 (W ma 48) = _
  rw [aw34, aw35, aw43, aw48]
  kernel_rfl
theorem aw51 : W ma 51 = 2845390439#32 := by
  rw [W_hi _ _ (by decide)]
  show W ma 35 + lo0 (W ma 36) + W ma 44 + lo1 (W ma 49) = _
  rw [aw35, aw36, aw44, aw49]
  kernel_rfl
theorem aw52 : W ma 52 = 2226839261#32 := by
  rw [W_hi _ _ (by decide)]
  show W ma 36 + lo0 (W ma 37) + W ma 45 + lo1 (W ma 50) = _
  rw [aw36, aw37, aw45, aw50]
  kernel_rfl
theorem aw53 : W ma 53 = 3256115900#32 := by
  rw [W_hi _ _ (by decide)]
  show W ma 37 + lo0 (W ma 38) + W ma 46 + lo1 (W ma 51) = _
  rw [aw37, aw38, aw46, aw51]
  kernel_rfl
theorem aw54 : W ma 54 = 344409900#32 := by
  rw [W_hi _ _ (by decide)]
  show W ma 38 + lo0 (W ma 39) + W ma 47 + lo1 (W ma 52) = _
  rw [aw38, aw39, aw47, aw52]
  kernel_rfl
theorem aw55 : W ma 55 = 2987358873#32 := by
  rw [W_hi _ _ (by decide)]
  show W ma 39 + lo0 (W ma 40) + W ma 48 + lo1 (W ma 53) = _
  rw [aw39, aw40, aw48, aw53]
  kernel_rfl
theorem aw56 : W ma 56 = 4015503821#32 := by
  rw [W_hi _ _ (by decide)]
  show W ma 40 + lo0 (W ma 41) + W ma 49 + lo1 (W ma 54) = _
  rw [aw40, aw41, aw49, aw54]
  kernel_rfl
theorem aw57 : W ma 57 = 3957764664#32 := by
  rw [W_hi _ _ (by decide)]
  show W ma 41 + lo0 (W ma 42) + W ma 50 + lo1 (W ma 55) = _
  rw [aw41, aw42, aw50, aw55]
  kernel_rfl
theorem aw58 : W ma 58 = 2682456414#32 := by
  rw [W_hi _ _ (by decide)]
  show W ma 42 + lo0 (W ma 43) + W ma 51 + lo1 (W ma 56) = _
  rw [aw42, aw43, aw51, aw56]
  kernel_rfl
theorem aw59 : W ma 59 = 2025622859#32 := by
  rw [W_hi _ _ (by decide)]
  show W ma 43 + lo0 (W ma 44) + W ma 52 + lo1 (W ma 57) = _
  rw [aw43, aw44, aw52, aw57]
  kernel_rfl
theorem aw60 : W ma 60 = 2755645205#32 := by
  rw [W_hi _ _ (by decide)]
  show W ma 44 + lo0 (W ma 45) + W ma 53 + lo1 (W ma 58) = _
  rw [aw44, aw45, aw53, aw58]
  kernel_rfl
theorem aw61 : W ma 61 = 1720397816#32 := by
  rw [W_hi _ _ (by decide)]
  show W ma 45 + lo0 (W ma 46) + W ma 54 + lo1 (W ma 59) = _
  rw [aw45, aw46, aw54, aw59]
  kernel_rfl
theorem aw62 : W ma 62 = 4004225740#32 := by
  rw [W_hi _ _ (by decide)]
  show W ma 46 + lo0 (W ma 47) + W ma 55 + lo1 (W ma 60) = _
  rw [aw46, aw47, aw55, aw60]
  kernel_rfl
theorem aw63 : W ma 63 = 313650667#32 := by
  rw [W_hi _ _ (by decide)]
  show W ma 47 + lo0 (W ma 48) + W ma 56 + lo1 (W ma 61) = _
  rw [aw47, aw48, aw56, aw61]
  kernel_rfl
theorem ar0 : rnds kc ma 0 st0 = (⟨1779033703#32, 3144134277#32, 1013904242#32, 2773480762#32, 1359893119#32, 2600822924#32, 528734635#32, 1541459225#32⟩ : St) := rfl
theorem ar1 : rnds kc ma 1 st0 = (⟨1567288269#32, 1779033703#32, 3144134277#32, 1013904242#32, 4197074466#32, 1359893119#32, 2600822924#32, 528734635#32⟩ : St) := by
  show rnd (kc 0) (W ma 0) (rnds kc ma 0 st0) = _
  rw [aw0, ar0]
  kernel_rfl
theorem ar2 : rnds kc ma 2 st0 = (⟨1516951981#32, 1567288269#32, 1779033703#32, 3144134277#32, 2026797449#32, 4197074466#32, 1359893119#32, 2600822924#32⟩ : St) := by
  show rnd (kc 1) (W ma 1) (rnds kc ma 1 st0) = _
  rw [aw1, ar1]
  kernel_rfl
theorem ar3 : rnds kc ma 3 st0 = (⟨3368241063#32, 1516951981#32, 1567288269#32, 1779033703#32, 4180228587#32, 2026797449#32, 4197074466#32, 1359893119#32⟩ : St) := by
  show rnd (kc 2) (W ma 2) (rnds kc ma 2 st0) = _
  rw [aw2, ar2]
  kernel_rfl
theorem ar4 : rnds kc ma 4 st0 = (⟨3578852966#32, 3368241063#32, 1516951981#32, 1567288269#32, 618661968#32, 4180228587#32, 2026797449#32, 4197074466#32⟩ : St) := by
  show rnd (kc 3) (W ma 3) (rnds kc ma 3 st0) = _
  rw [aw3, ar3]
  kernel_rfl
theorem ar5 : rnds kc ma 5 st0 = (⟨71342698#32, 3578852966#32, 3368241063#32, 1516951981#32, 1135452741#32, 618661968#32, 4180228587#32, 2026797449#32⟩ : St) := by
  show rnd (kc 4) (W ma 4) (rnds kc ma 4 st0) = _
  rw [aw4, ar4]
  kernel_rfl
theorem ar6 : rnds kc ma 6 st0 = (⟨725748213#32, 71342698#32, 3578852966#32, 3368241063#32, 1900175533#32, 1135452741#32, 618661968#32, 4180228587#32⟩ : St) := by
  show rnd (kc 5) (W ma 5) (rnds kc ma 5 st0) = _
  rw [aw5, ar5]
  kernel_rfl
theorem ar7 : rnds kc ma 7 st0 = (⟨3842179968#32, 725748213#32, 71342698#32, 3578852966#32, 2603066369#32, 1900175533#32, 1135452741#32, 618661968#32⟩ : St) := by
  show rnd (kc 6) (W ma 6) (rnds kc ma 6 st0) = _
  rw [aw6, ar6]
  kernel_rfl
theorem ar8 : rnds kc ma 8 st0 = (⟨2241887071#32, 3842179968#32, 725748213#32, 71342698#32, 207977081#32, 2603066369#32, 1900175533#32, 1135452741#32⟩ : St) := by
  show rnd (kc 7) (W ma 7) (rnds kc ma 7 st0) = _
  rw [aw7, ar7]
  kernel_rfl
theorem ar9 : rnds kc ma 9 st0 = (⟨2382687417#32, 2241887071#32, 3842179968#32, 725748213#32, 852110732#32, 207977081#32, 2603066369#32, 1900175533#32⟩ : St) := by
  show rnd (kc 8) (W ma 8) (rnds kc ma 8 st0) = _
  rw [aw8, ar8]
  kernel_rfl
theorem ar10 : rnds kc ma 10 st0 = (⟨2357671019#32, 2382687417#32, 2241887071#32, 3842179968#32, 482944406#32, 852110732#32, 207977081#32, 2603066369#32⟩ : St) := by
  show rnd (kc 9) (W ma 9) (rnds kc ma 9 st0) = _
  rw [aw9, ar9]
  kernel_rfl
theorem ar11 : rnds kc ma 11 st0 = (⟨1201185780#32, 2357671019#32, 2382687417#32, 2241887071#32, 1131095016#32, 482944406#32, 852110732#32, 207977081#32⟩ : St) := by
  show rnd (kc 10) (W ma 10) (rnds kc ma 10 st0) = _
  rw [aw10, ar10]
  kernel_rfl
theorem ar12 : rnds kc ma 12 st0 = (⟨4146054569#32, 1201185780#32, 2357671019#32, 2382687417#32, 2171590377#32, 1131095016#32, 482944406#32, 852110732#32⟩ : St) := by
  show rnd (kc 11) (W ma 11) (rnds kc ma 11 st0) = _
  rw [aw11, ar11]
  kernel_rfl
theorem ar13 : rnds kc ma 13 st0 = (⟨2274437520#32, 4146054569#32, 1201185780#32, 2357671019#32, 509051416#32, 2171590377#32, 1131095016#32, 482944406#32⟩ : St) := by
  show rnd (kc 12) (W ma 12) (rnds kc ma 12 st0) = _
  rw [aw12, ar12]
  kernel_rfl
theorem ar14 : rnds kc ma 14 st0 = (⟨3643992854#32, 2274437520#32, 4146054569#32, 1201185780#32, 1952073950#32, 509051416#32, 2171590377#32, 1131095016#32⟩ : St) := by
  show rnd (kc 13) (W ma 13) (rnds kc ma 13 st0) = _
  rw [aw13, ar13]
  kernel_rfl
theorem ar15 : rnds kc ma 15 st0 = (⟨3227803614#32, 3643992854#32, 2274437520#32, 4146054569#32, 194179596#32, 1952073950#32, 509051416#32, 2171590377#32⟩ : St) := by
  show rnd (kc 14) (W ma 14) (rnds kc ma 14 st0) = _
  rw [aw14, ar14]
  kernel_rfl
theorem ar16 : rnds kc ma 16 st0 = (⟨2969183118#32, 3227803614#32, 3643992854#32, 2274437520#32, 123276749#32, 194179596#32, 1952073950#32, 509051416#32⟩ : St) := by
  show rnd (kc 15) (W ma 15) (rnds kc ma 15 st0) = _
  rw [aw15, ar15]
  kernel_rfl
theorem ar17 : rnds kc ma 17 st0 = (⟨567974555#32, 2969183118#32, 3227803614#32, 3643992854#32, 2150900380#32, 123276749#32, 194179596#32, 1952073950#32⟩ : St) := by
  show rnd (kc 16) (W ma 16) (rnds kc ma 16 st0) = _
  rw [aw16, ar16]
  kernel_rfl
theorem ar18 : rnds kc ma 18 st0 = (⟨3271285201#32, 567974555#32, 2969183118#32, 3227803614#32, 2221859924#32, 2150900380#32, 123276749#32, 194179596#32⟩ : St) := by
  show rnd (kc 17) (W ma 17) (rnds kc ma 17 st0) = _
  rw [aw17, ar17]
  kernel_rfl
theorem ar19 : rnds kc ma 19 st0 = (⟨4269243327#32, 3271285201#32, 567974555#32, 2969183118#32, 3431569761#32, 2221859924#32, 2150900380#32, 123276749#32⟩ : St) := by
  show rnd (kc 18) (W ma 18) (rnds kc ma 18 st0) = _
  rw [aw18, ar18]
  kernel_rfl
theorem ar20 : rnds kc ma 20 st0 = (⟨3790736435#32, 4269243327#32, 3271285201#32, 567974555#32, 2959311225#32, 3431569761#32, 2221859924#32, 2150900380#32⟩ : St) := by
  show rnd (kc 19) (W ma 19) (rnds kc ma 19 st0) = _
  rw [aw19, ar19]
  kernel_rfl
theorem ar21 : rnds kc ma 21 st0 = (⟨2647034723#32, 3790736435#32, 4269243327#32, 3271285201#32, 2329577776#32, 2959311225#32, 3431569761#32, 2221859924#32⟩ : St) := by
  show rnd (kc 20) (W ma 20) (rnds kc ma 20 st0) = _
  rw [aw20, ar20]
  kernel_rfl
theorem ar22 : rnds kc ma 22 st0 = (⟨3261099373#32, 2647034723#32, 3790736435#32, 4269243327#32, 3777329520#32, 2329577776#32, 2959311225#32, 3431569761#32⟩ : St) := by
  show rnd (kc 21) (W ma 21) (rnds kc ma 21 st0) = _
  rw [aw21, ar21]
  kernel_rfl
theorem ar23 : rnds kc ma 23 st0 = (⟨2812502591#32, 3261099373#32, 2647034723#32, 3790736435#32, 1240797514#32, 3777329520#32, 2329577776#32, 2959311225#32⟩ : St) := by
  show rnd (kc 22) (W ma 22) (rnds kc ma 22 st0) = _
  rw [aw22, ar22]
  kernel_rfl
theorem ar24 : rnds kc ma 24 st0 = (⟨3319086477#32, 2812502591#32, 3261099373#32, 2647034723#32, 2856829767#32, 1240797514#32, 3777329520#32, 2329577776#32⟩ : St) := by
  show rnd (kc 23) (W ma 23) (rnds kc ma 23 st0) = _
  rw [aw23, ar23]
  kernel_rfl
theorem ar25 : rnds kc ma 25 st0 = (⟨472655928#32, 3319086477#32, 2812502591#32, 3261099373#32, 673443729#32, 2856829767#32, 1240797514#32, 3777329520#32⟩ : St) := by
  show rnd (kc 24) (W ma 24) (rnds kc ma 24 st0) = _
  rw [aw24, ar24]
  kernel_rfl
theorem ar26 : rnds kc ma 26 st0 = (⟨3454534525#32, 472655928#32, 3319086477#32, 2812502591#32, 339230094#32, 673443729#32, 2856829767#32, 1240797514#32⟩ : St) := by
  show rnd (kc 25) (W ma 25) (rnds kc ma 25 st0) = _
  rw [aw25, ar25]
  kernel_rfl
theorem ar27 : rnds kc ma 27 st0 = (⟨3056518332#32, 3454534525#32, 472655928#32, 3319086477#32, 3343672598#32, 339230094#32, 673443729#32, 2856829767#32⟩ : St) := by
  show rnd (kc 26) (W ma 26) (rnds kc ma 26 st0) = _
  rw [aw26, ar26]
  kernel_rfl
theorem ar28 : rnds kc ma 28 st0 = (⟨2010346792#32, 3056518332#32, 3454534525#32, 472655928#32, 3992961016#32, 3343672598#32, 339230094#32, 673443729#32⟩ : St) := by
  show rnd (kc 27) (W ma 27) (rnds kc ma 27 st0) = _
  rw [aw27, ar27]
  kernel_rfl
theorem ar29 : rnds kc ma 29 st0 = (⟨909411017#32, 2010346792#32, 3056518332#32, 3454534525#32, 1628611511#32, 3992961016#32, 3343672598#32, 339230094#32⟩ : St) := by
  show rnd (kc 28) (W ma 28) (rnds kc ma 28 st0) = _
  rw [aw28, ar28]
  kernel_rfl
theorem ar30 : rnds kc ma 30 st0 = (⟨2684750640#32, 909411017#32, 2010346792#32, 3056518332#32, 2917635127#32, 1628611511#32, 3992961016#32, 3343672598#32⟩ : St) := by
  show rnd (kc 29) (W ma 29) (rnds kc ma 29 st0) = _
  rw [aw29, ar29]
  kernel_rfl
theorem ar31 : rnds kc ma 31 st0 = (⟨3935906338#32, 2684750640#32, 909411017#32, 2010346792#32, 17410874#32, 2917635127#32, 1628611511#32, 3992961016#32⟩ : St) := by
  show rnd (kc 30) (W ma 30) (rnds kc ma 30 st0) = _
  rw [aw30, ar30]
  kernel_rfl
theorem ar32 : rnds kc ma 32 st0 = (⟨1941126133#32, 3935906338#32, 2684750640#32, 909411017#32, 3126399250#32, 17410874#32, 2917635127#32, 1628611511#32⟩ : St) := by
  show rnd (kc 31) (W ma 31) (rnds kc ma 31 st0) = _
  rw [aw31, ar31]
  kernel_rfl
theorem ar33 : rnds kc ma 33 st0 = (⟨2564891911#32, 1941126133#32, 3935906338#32, 2684750640#32, 2631529974#32, 3126399250#32, 17410874#32, 2917635127#32⟩ : St) := by
  show rnd (kc 32) (W ma 32) (rnds kc ma 32 st0) = _
  rw [aw32, ar32]
  kernel_rfl
theorem ar34 : rnds kc ma 34 st0 = (⟨4267724277#32, 2564891911#32, 1941126133#32, 3935906338#32, 1495571923#32, 2631529974#32, 3126399250#32, 17410874#32⟩ : St) := by
  show rnd (kc 33) (W ma 33) (rnds kc ma 33 st0) = _
  rw [aw33, ar33]
  kernel_rfl
theorem ar35 : rnds kc ma 35 st0 = (⟨2846323596#32, 4267724277#32, 2564891911#32, 1941126133#32, 140458035#32, 1495571923#32, 2631529974#32, 3126399250#32⟩ : St) := by
  show rnd (kc 34) (W ma 34) (rnds kc ma 34 st0) = _
  rw [aw34, ar34]
  kernel_rfl
theorem ar36 : rnds kc ma 36 st0 = (⟨1705037796#32, 2846323596#32, 4267724277#32, 2564891911#32, 4105175766#32, 140458035#32, 1495571923#32, 2631529974#32⟩ : St) := by
  show rnd (kc 35) (W ma 35) (rnds kc ma 35 st0) = _
  rw [aw35, ar35]
  kernel_rfl
theorem ar37 : rnds kc ma 37 st0 = (⟨1101421745#32, 1705037796#32, 2846323596#32, 4267724277#32, 124953195#32, 4105175766#32, 140458035#32, 1495571923#32⟩ : St) := by
  show rnd (kc 36) (W ma 36) (rnds kc ma 36 st0) = _
  rw [aw36, ar36]
  kernel_rfl
theorem ar38 : rnds kc ma 38 st0 = (⟨887035396#32, 1101421745#32, 1705037796#32, 2846323596#32, 2768741693#32, 124953195#32, 4105175766#32, 140458035#32⟩ : St) := by
  show rnd (kc 37) (W ma 37) (rnds kc ma 37 st0) = _
  rw [aw37, ar37]
  kernel_rfl
theorem ar39 : rnds kc ma 39 st0 = (⟨1841658506#32, 887035396#32, 1101421745#32, 1705037796#32, 4034403272#32, 2768741693#32, 124953195#32, 4105175766#32⟩ : St) := by
  show rnd (kc 38) (W ma 38) (rnds kc ma 38 st0) = _
  rw [aw38, ar38]
  kernel_rfl
theorem ar40 : rnds kc ma 40 st0 = (⟨2045405306#32, 1841658506#32, 887035396#32, 1101421745#32, 519815328#32, 4034403272#32, 2768741693#32, 124953195#32⟩ : St) := by
  show rnd (kc 39) (W ma 39) (rnds kc ma 39 st0) = _
  rw [aw39, ar39]
  kernel_rfl
theorem ar41 : rnds kc ma 41 st0 = (⟨3597076326#32, 2045405306#32, 1841658506#32, 887035396#32, 641019235#32, 519815328#32, 4034403272#32, 2768741693#32⟩ : St) := by
  show rnd (kc 40) (W ma 40) (rnds kc ma 40 st0) = _
  rw [aw40, ar40]
  kernel_rfl
theorem ar42 : rnds kc ma 42 st0 = (⟨3745932591#32, 3597076326#32, 2045405306#32, 1841658506#32, 2206934801#32, 641019235#32, 519815328#32, 4034403272#32⟩ : St) := by
  show rnd (kc 41) (W ma 41) (rnds kc ma 41 st0) = _
  rw [aw41, ar41]
  kernel_rfl
theorem ar43 : rnds kc ma 43 st0 = (⟨397020670#32, 3745932591#32, 3597076326#32, 2045405306#32, 3737995029#32, 2206934801#32, 641019235#32, 519815328#32⟩ : St) := by
  show rnd (kc 42) (W ma 42) (rnds kc ma 42 st0) = _
  rw [aw42, ar42]
  kernel_rfl
theorem ar44 : rnds kc ma 44 st0 = (⟨2638983059#32, 397020670#32, 3745932591#32, 3597076326#32, 4255271982#32, 3737995029#32, 2206934801#32, 641019235#32⟩ : St) := by
  show rnd (kc 43) (W ma 43) (rnds kc ma 43 st0) = _
  rw [aw43, ar43]
  kernel_rfl
theorem ar45 : rnds kc ma 45 st0 = (⟨643991573#32, 2638983059#32, 397020670#32, 3745932591#32, 2819559920#32, 4255271982#32, 3737995029#32, 2206934801#32⟩ : St) := by
  show rnd (kc 44) (W ma 44) (rnds kc ma 44 st0) = _
  rw [aw44, ar44]
  kernel_rfl
theorem ar46 : rnds kc ma 46 st0 = (⟨1923828625#32, 643991573#32, 2638983059#32, 397020670#32, 3077922209#32, 2819559920#32, 4255271982#32, 3737995029#32⟩ : St) := by
  show rnd (kc 45) (W ma 45) (rnds kc ma 45 st0) = _
  rw [aw45, ar45]
  kernel_rfl
theorem ar47 : rnds kc ma 47 st0 = (⟨2706117808#32, 1923828625#32, 643991573#32, 2638983059#32, 3581645993#32, 3077922209#32, 2819559920#32, 4255271982#32⟩ : St) := by
  show rnd (kc 46) (W ma 46) (rnds kc ma 46 st0) = _
  rw [aw46, ar46]
  kernel_rfl
theorem ar48 : rnds kc ma 48 st0 = (⟨1098003085#32, 2706117808#32, 1923828625#32, 643991573#32, 4274981830#32, 3581645993#32, 3077922209#32, 2819559920#32⟩ : St) := by
  show rnd (kc 47) (W ma 47) (rnds kc ma 47 st0) = _
  rw [aw47, ar47]
  kernel_rfl
theorem ar49 : rnds kc ma 49 st0 = (⟨91585771#32, 1098003085#32, 2706117808#32, 1923828625#32, 3178315832#32, 4274981830#32, 3581645993#32, 3077922209#32⟩ : St) := by
  show rnd (kc 48) (W ma 48) (rnds kc ma 48 st0) = _
  rw [aw48, ar48]
  kernel_rfl
theorem ar50 : rnds kc ma 50 st0 = (⟨4045142696#32, 91585771#32, 1098003085#32, 2706117808#32, 1851537676#32, 3178315832#32, 4274981830#32, 3581645993#32⟩ : St) := by
  show rnd (kc 49) (W ma 49) (rnds kc ma 49 st0) = _
  rw [aw49, ar49]
  kernel_rfl
theorem ar51 : rnds kc ma 51 st0 = (⟨2047150241#32, 4045142696#32, 91585771#32, 1098003085#32, 1391578359#32, 1851537676#32, 3178315832#32, 4274981830#32⟩ : St) := by
  show rnd (kc 50) (W ma 50) (rnds kc ma 50 st0) = _
  rw [aw50, ar50]
  kernel_rfl
theorem ar52 : rnds kc ma 52 st0 = (⟨2288941602#32, 2047150241#32, 4045142696#32, 91585771#32, 1227037726#32, 1391578359#32, 1851537676#32, 3178315832#32⟩ : St) := by
  show rnd (kc 51) (W ma 51) (rnds kc ma 51 st0) = _
  rw [aw51, ar51]
  kernel_rfl
theorem ar53 : rnds kc ma 53 st0 = (⟨270520975#32, 2288941602#32, 2047150241#32, 4045142696#32, 1386118400#32, 1227037726#32, 1391578359#32, 1851537676#32⟩ : St) := by
  show rnd (kc 52) (W ma 52) (rnds kc ma 52 st0) = _
  rw [aw52, ar52]
  kernel_rfl
theorem ar54 : rnds kc ma 54 st0 = (⟨4117770203#32, 270520975#32, 2288941602#32, 2047150241#32, 2672265155#32, 1386118400#32, 1227037726#32, 1391578359#32⟩ : St) := by
  show rnd (kc 53) (W ma 53) (rnds kc ma 53 st0) = _
  rw [aw53, ar53]
  kernel_rfl
theorem ar55 : rnds kc ma 55 st0 = (⟨1053056219#32, 4117770203#32, 270520975#32, 2288941602#32, 3842906959#32, 2672265155#32, 1386118400#32, 1227037726#32⟩ : St) := by
  show rnd (kc 54) (W ma 54) (rnds kc ma 54 st0) = _
  rw [aw54, ar54]
  kernel_rfl
theorem ar56 : rnds kc ma 56 st0 = (⟨952932627#32, 1053056219#32, 4117770203#32, 270520975#32, 1422599787#32, 3842906959#32, 2672265155#32, 1386118400#32⟩ : St) := by
  show rnd (kc 55) (W ma 55) (rnds kc ma 55 st0) = _
  rw [aw55, ar55]
  kernel_rfl
theorem ar57 : rnds kc ma 57 st0 = (⟨4241590395#32, 952932627#32, 1053056219#32, 4117770203#32, 2606665836#32, 1422599787#32, 3842906959#32, 2672265155#32⟩ : St) := by
  show rnd (kc 56) (W ma 56) (rnds kc ma 56 st0) = _
  rw [aw56, ar56]
  kernel_rfl
theorem ar58 : rnds kc ma 58 st0 = (⟨3227702383#32, 4241590395#32, 952932627#32, 1053056219#32, 2118385806#32, 2606665836#32, 1422599787#32, 3842906959#32⟩ : St) := by
  show rnd (kc 57) (W ma 57) (rnds kc ma 57 st0) = _
  rw [aw57, ar57]
  kernel_rfl
theorem ar59 : rnds kc ma 59 st0 = (⟨4290184306#32, 3227702383#32, 4241590395#32, 952932627#32, 1837350854#32, 2118385806#32, 2606665836#32, 1422599787#32⟩ : St) := by
  show rnd (kc 58) (W ma 58) (rnds kc ma 58 st0) = _
  rw [aw58, ar58]
  kernel_rfl
theorem ar60 : rnds kc ma 60 st0 = (⟨3064893439#32, 4290184306#32, 3227702383#32, 4241590395#32, 2988158269#32, 1837350854#32, 2118385806#32, 2606665836#32⟩ : St) := by
  show rnd (kc 59) (W ma 59) (rnds kc ma 59 st0) = _
  rw [aw59, ar59]
  kernel_rfl
theorem ar61 : rnds kc ma 61 st0 = (⟨3093179625#32, 3064893439#32, 4290184306#32, 3227702383#32, 2518632596#32, 2988158269#32, 1837350854#32, 2118385806#32⟩ : St) := by
  show rnd (kc 60) (W ma 60) (rnds kc ma 60 st0) = _
  rw [aw60, ar60]
  kernel_rfl
theorem ar62 : rnds kc ma 62 st0 = (⟨80891244#32, 3093179625#32, 3064893439#32, 4290184306#32, 2492278198#32, 2518632596#32, 2988158269#32, 1837350854#32⟩ : St) := by
  show rnd (kc 61) (W ma 61) (rnds kc ma 61 st0) = _
  rw [aw61, ar61]
  kernel_rfl
theorem ar63 : rnds kc ma 63 st0 = (⟨3550093669#32, 80891244#32, 3093179625#32, 3064893439#32, 4212265488#32, 2492278198#32, 2518632596#32, 2988158269#32⟩ : St) := by
  show rnd (kc 62) (W ma 62) (rnds kc ma 62 st0) = _
  rw [aw62, ar62]
  kernel_rfl
theorem ar64 : rnds kc ma 64 st0 = (⟨1349398616#32, 3550093669#32, 80891244#32, 3093179625#32, 1593118500#32, 4212265488#32, 2492278198#32, 2518632596#32⟩ : St) := by
  show rnd (kc 63) (W ma 63) (rnds kc ma 63 st0) = _
  rw [aw63, ar63]
  kernel_rfl
theorem sha_abc : shaL [97, 98, 99] = [186, 120, 22, 191, 143, 1, 207, 234, 65, 65, 64, 222, 93, 174, 34, 35, 176, 3, 97, 163, 150, 23, 122, 156, 180, 16, 255, 97, 242, 0, 21, 173] := by
  show (St.add st0 (rnds kc ma 64 st0)).text = _
  rw [ar64]
  kernel_rfl
theorem hex_abc : hexL (shaL [97, 98, 99]) = [98, 97, 55, 56, 49, 54, 98, 102, 56, 102, 48, 49, 99, 102, 101, 97, 52, 49, 52, 49, 52, 48, 100, 101, 53, 100, 97, 101, 50, 50, 50, 51, 98, 48, 48, 51, 54, 49, 97, 51, 57, 54, 49, 55, 55, 97, 57, 99, 98, 52, 49, 48, 102, 102, 54, 49, 102, 50, 48, 48, 49, 53, 97, 100] := by rw [sha_abc]; kernel_rfl
theorem crc_nine : crcL [49, 50, 51, 52, 53, 54, 55, 56, 57] = 3421780262#32 := by kernel_rfl
end Go.Proofs.YtbbdlggbddaahaaDoor
