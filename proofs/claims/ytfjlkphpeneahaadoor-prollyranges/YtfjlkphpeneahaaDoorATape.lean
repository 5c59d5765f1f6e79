/- No run turns the tape. -/
import Derived.Test.YtfjlkphpeneahaaDoorRows
namespace Go.Proofs.YtfjlkphpeneahaaDoor.S1
open Go

theorem ask_tape {α : Type} : ∀ (m : Ask α) (w : World), (w.ask m).2.tape = w.tape
  | .done _, _ => rfl
  | .ask what range k, w => by
    unfold World.ask
    simp only
    split
    · exact ask_tape (k 0) w
    · exact ask_tape (k _) _
theorem sys_tape (w : World) (c : Sys) : (w.sys c).2.tape = w.tape := by
  have h := ask_tape (Kernel.perform c w.os) w
  unfold World.sys
  split
  · rfl
  · rename_i r os w' he
    rw [he] at h
    exact h
theorem viewStore_tape {p : Program} {w : World} {at_ : Addr} {u : TypeId} {k : Addr} {v : Value} {a : Bool} {r : World × List Addr} (h : w.viewStore p at_ u k v a = .ok r) : r.1.tape = w.tape := by
  unfold World.viewStore at h
  simp only [bind, Except.bind, pure, Except.pure] at h
  repeat' split at h
  all_goals first | (cases h; done) | (injection h with h; subst h; rfl) | skip
theorem farStore_tape {p : Program} {w : World} {k : Addr} {v : Value} {a : Bool} {r : World × List Addr} (h : w.farStore p k v a = .ok r) : r.1.tape = w.tape := by
  unfold World.farStore at h
  split at h
  · split at h
    · rename_i x hx
      cases h
      exact viewStore_tape hx
    · cases h
  · cases h
theorem freeze_tape (w : World) (a : Addr) (n : Nat) : (w.freeze a n).tape = w.tape := by unfold World.freeze; split <;> rfl
theorem run_tape {α : Type} {p : Program} : ∀ {m : Sem α} {w w' : World} {x : α}, m.run p w = .ok x w' → w'.tape = w.tape := by
  intro m
  induction m with
  | pure a => intro w w' x h; unfold Sem.run at h; cases h; rfl
  | load m a k ih =>
    intro w w' x h
    unfold Sem.run at h
    split at h
    · exact ih _ h
    · split at h
      · exact ih _ h
      · cases h
  | store m a v k ih =>
    intro w w' x h
    cases v <;> simp only [Sem.run] at h
    all_goals first
      | (cases h; done)
      | (split at h
         · split at h
           · cases h
           · exact (ih h).trans rfl
         · split at h
           · rename_i hf
             exact (ih h).trans (farStore_tape hf)
           · cases h)
  | new o k ih => intro w w' x h; unfold Sem.run at h; exact (ih _ h).trans rfl
  | shape r k ih => intro w w' x h; unfold Sem.run at h; exact ih _ h
  | freeze a n k ih => intro w w' x h; unfold Sem.run at h; exact (ih h).trans (freeze_tape _ _ _)
  | frozen a k ih => intro w w' x h; unfold Sem.run at h; exact ih _ h
  | getObj r k ih =>
    intro w w' x h
    unfold Sem.run at h
    split at h
    · cases h
    · exact ih _ h
    · cases h
  | setObj r o k ih =>
    intro w w' x h
    unfold Sem.run at h
    split at h
    · cases h
    · exact (ih h).trans rfl
    · cases h
  | choose q k ih =>
    intro w w' x h
    unfold Sem.run at h
    split at h
    · exact ih _ h
    · exact (ih _ h).trans rfl
  | sys c k ih => intro w w' x h; unfold Sem.run at h; exact (ih _ h).trans (sys_tape _ _)
  | program k ih => intro w w' x h; unfold Sem.run at h; exact ih _ h
  | mark m k ih => intro w w' x h; unfold Sem.run at h; exact ih h
  | halt h => intro w w' x e; unfold Sem.run at e; cases e
end Go.Proofs.YtfjlkphpeneahaaDoor.S1
