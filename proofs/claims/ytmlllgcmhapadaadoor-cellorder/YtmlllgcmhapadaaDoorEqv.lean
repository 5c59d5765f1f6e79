/- Two values held against each other. -/
import Derived.Test.YtmlllgcmhapadaaDoorOne
namespace Go.Proofs.YtmlllgcmhapadaaDoor
open Go Go.RowKit

theorem st23 : Tryd.prog.stoodInHeld 23 = false := by kernel_rfl
theorem un23 : Tryd.prog.underlying 23 = some (.struct (Tryd.prog.fieldsOf 23)) := by simp only [Program.fieldsOf, Tryd.underlying23]
set_option maxHeartbeats 1000000 in
theorem run_eqV (k n k' n' : Int) (s s' : ByteArray) (w : World) : (binOp .eql 23 (.agg #[.int .i64 k, .int .i64 n, .string s]) (.agg #[.int .i64 k', .int .i64 n', .string s'])).run Tryd.prog w = .ok (.bool (sameV ⟨k, n, s⟩ ⟨k', n', s'⟩)) w := by
  unfold sameV
  simp only
  rw [run_eql_struct, run_equalIn_struct w 9999 23 _ _ un23 st23]
  have u3 := Tryd.underlying3
  have u2 := Tryd.underlying2
  have u9 := Tryd.underlying9
  simp only [Program.fieldsOf, Tryd.underlying23, Op.eqFields]
  cases h1 : (k == k') with
  | false => simp [go_sem, h1]
  | true =>
    cases h2 : (n == n') with
    | false => simp [go_sem, h1, h2]
    | true =>
      cases h3 : (s.toList == s'.toList) with
      | false => simp [go_sem, h1, h2, h3]
      | true => simp [go_sem, h1, h2, h3]
end Go.Proofs.YtmlllgcmhapadaaDoor
