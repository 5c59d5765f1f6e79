/- The roots' words are the known ones: reckoned by the kernel. -/
import Derived.Test.YtbbdlggbddaahaaDoorWalkY
import Derived.Test.YtbbdlggbddaahaaDoorWalkB
namespace Go.Proofs.YtbbdlggbddaahaaDoor
open Go Go.RowKit

def p8 : List Nat := [2, 3, 5, 7, 11, 13, 17, 19]
def p64 : List Nat := [2, 3, 5, 7, 11, 13, 17, 19, 23, 29, 31, 37, 41, 43, 47, 53, 59, 61, 67, 71, 73, 79, 83, 89, 97, 101, 103, 107, 109, 113, 127, 131, 137, 139, 149, 151, 157, 163, 167, 173, 179, 181, 191, 193, 197, 199, 211, 223, 227, 229, 233, 239, 241, 251, 257, 263, 269, 271, 277, 281, 283, 293, 307, 311]
theorem primes8 : primesF 400 [] 2 8 = p8 := by decide +kernel
theorem primes64 : primesF 400 [] 2 64 = p64 := by decide +kernel
theorem nat8 : p8.map (root 2) = st0.l.map BitVec.toNat := by decide +kernel
theorem cu2 : root 3 2 = 1116352408 := by decide +kernel
theorem cu3 : root 3 3 = 1899447441 := by decide +kernel
theorem cu5 : root 3 5 = 3049323471 := by decide +kernel
theorem cu7 : root 3 7 = 3921009573 := by decide +kernel
theorem cu11 : root 3 11 = 961987163 := by decide +kernel
theorem cu13 : root 3 13 = 1508970993 := by decide +kernel
theorem cu17 : root 3 17 = 2453635748 := by decide +kernel
theorem cu19 : root 3 19 = 2870763221 := by decide +kernel
theorem cu23 : root 3 23 = 3624381080 := by decide +kernel
theorem cu29 : root 3 29 = 310598401 := by decide +kernel
theorem cu31 : root 3 31 = 607225278 := by decide +kernel
theorem cu37 : root 3 37 = 1426881987 := by decide +kernel
theorem cu41 : root 3 41 = 1925078388 := by decide +kernel
theorem cu43 : root 3 43 = 2162078206 := by decide +kernel
theorem cu47 : root 3 47 = 2614888103 := by decide +kernel
theorem cu53 : root 3 53 = 3248222580 := by decide +kernel
theorem cu59 : root 3 59 = 3835390401 := by decide +kernel
theorem cu61 : root 3 61 = 4022224774 := by decide +kernel
theorem cu67 : root 3 67 = 264347078 := by decide +kernel
theorem cu71 : root 3 71 = 604807628 := by decide +kernel
theorem cu73 : root 3 73 = 770255983 := by decide +kernel
theorem cu79 : root 3 79 = 1249150122 := by decide +kernel
theorem cu83 : root 3 83 = 1555081692 := by decide +kernel
theorem cu89 : root 3 89 = 1996064986 := by decide +kernel
theorem cu97 : root 3 97 = 2554220882 := by decide +kernel
theorem cu101 : root 3 101 = 2821834349 := by decide +kernel
theorem cu103 : root 3 103 = 2952996808 := by decide +kernel
theorem cu107 : root 3 107 = 3210313671 := by decide +kernel
theorem cu109 : root 3 109 = 3336571891 := by decide +kernel
theorem cu113 : root 3 113 = 3584528711 := by decide +kernel
theorem cu127 : root 3 127 = 113926993 := by decide +kernel
theorem cu131 : root 3 131 = 338241895 := by decide +kernel
theorem cu137 : root 3 137 = 666307205 := by decide +kernel
theorem cu139 : root 3 139 = 773529912 := by decide +kernel
theorem cu149 : root 3 149 = 1294757372 := by decide +kernel
theorem cu151 : root 3 151 = 1396182291 := by decide +kernel
theorem cu157 : root 3 157 = 1695183700 := by decide +kernel
theorem cu163 : root 3 163 = 1986661051 := by decide +kernel
theorem cu167 : root 3 167 = 2177026350 := by decide +kernel
theorem cu173 : root 3 173 = 2456956037 := by decide +kernel
theorem cu179 : root 3 179 = 2730485921 := by decide +kernel
theorem cu181 : root 3 181 = 2820302411 := by decide +kernel
theorem cu191 : root 3 191 = 3259730800 := by decide +kernel
theorem cu193 : root 3 193 = 3345764771 := by decide +kernel
theorem cu197 : root 3 197 = 3516065817 := by decide +kernel
theorem cu199 : root 3 199 = 3600352804 := by decide +kernel
theorem cu211 : root 3 211 = 4094571909 := by decide +kernel
theorem cu223 : root 3 223 = 275423344 := by decide +kernel
theorem cu227 : root 3 227 = 430227734 := by decide +kernel
theorem cu229 : root 3 229 = 506948616 := by decide +kernel
theorem cu233 : root 3 233 = 659060556 := by decide +kernel
theorem cu239 : root 3 239 = 883997877 := by decide +kernel
theorem cu241 : root 3 241 = 958139571 := by decide +kernel
theorem cu251 : root 3 251 = 1322822218 := by decide +kernel
theorem cu257 : root 3 257 = 1537002063 := by decide +kernel
theorem cu263 : root 3 263 = 1747873779 := by decide +kernel
theorem cu269 : root 3 269 = 1955562222 := by decide +kernel
theorem cu271 : root 3 271 = 2024104815 := by decide +kernel
theorem cu277 : root 3 277 = 2227730452 := by decide +kernel
theorem cu281 : root 3 281 = 2361852424 := by decide +kernel
theorem cu283 : root 3 283 = 2428436474 := by decide +kernel
theorem cu293 : root 3 293 = 2756734187 := by decide +kernel
theorem cu307 : root 3 307 = 3204031479 := by decide +kernel
theorem cu311 : root 3 311 = 3329325298 := by decide +kernel
theorem nat64 : p64.map (root 3) = kl.map BitVec.toNat := by
  simp only [p64, List.map_cons, List.map_nil, cu2, cu3, cu5, cu7, cu11, cu13, cu17, cu19, cu23, cu29, cu31, cu37, cu41, cu43, cu47, cu53, cu59, cu61, cu67, cu71, cu73, cu79, cu83, cu89, cu97, cu101, cu103, cu107, cu109, cu113, cu127, cu131, cu137, cu139, cu149, cu151, cu157, cu163, cu167, cu173, cu179, cu181, cu191, cu193, cu197, cu199, cu211, cu223, cu227, cu229, cu233, cu239, cu241, cu251, cu257, cu263, cu269, cu271, cu277, cu281, cu283, cu293, cu307, cu311]
  rfl
theorem rl_of {pw : Nat} {ps : List Nat} {l : List (BitVec 32)} (h : ps.map (root pw) = l.map BitVec.toNat) : rl pw ps = l := by
  have e : rl pw ps = (ps.map (root pw)).map (BitVec.ofNat 32) := by unfold rl; rw [List.map_map]; rfl
  rw [e, h, List.map_map]
  exact (List.map_congr_left (fun v _ => by simp)).trans (List.map_id l)
theorem roots8 : rl 2 p8 = st0.l := rl_of nat8
theorem roots64 : rl 3 p64 = kl := rl_of nat64
end Go.Proofs.YtbbdlggbddaahaaDoor
