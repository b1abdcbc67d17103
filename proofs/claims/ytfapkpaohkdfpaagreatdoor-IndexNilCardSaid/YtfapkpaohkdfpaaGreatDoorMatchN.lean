/-
  Queries that a law makes of others: rows of one and of two; the law's 'not', by a contract.
-/
import Derived.Test.YtfapkpaohkdfpaaGreatDoorMatchK
namespace Go.Proofs.YtfapkpaohkdfpaaGreatDoor
open Go.RowKit Mem
set_option linter.unusedVariables false
set_option maxRecDepth 100000

theorem row1 {w : World} {g : Nat} {q : Q} {e : TypeId} {m : Nat × Nat} (h : w.heap[g]? = some (.cells q.cells.toArray e m)) : Q.Row w w.heap.size (some ⟨g, 0, none⟩) 1 1 [q] := by
  refine ⟨rfl, Nat.le_refl _, by omega, fun _ => ⟨g, 0, rfl, heapLt h, fun i hi j hj => ?_⟩⟩
  obtain rfl : i = 0 := by simp at hi; omega
  rw [cell_of_row w g _ _ _ _ h]
  simp
theorem row2 {w : World} {g : Nat} {p q : Q} {e : TypeId} {m : Nat × Nat} (h : w.heap[g]? = some (.cells (p.cells ++ q.cells).toArray e m)) : Q.Row w w.heap.size (some ⟨g, 0, none⟩) 2 2 [p, q] := by
  have hp : p.cells.length = 4 := by cases p; rfl
  refine ⟨rfl, Nat.le_refl _, by omega, fun _ => ⟨g, 0, rfl, heapLt h, fun i hi j hj => ?_⟩⟩
  rw [cell_of_row w g _ _ _ _ h]
  have hi' : i < 2 := by simpa using hi
  match i, hi' with
  | 0, _ =>
    simp only [Nat.zero_mul, Nat.zero_add, List.getElem?_toArray, List.getElem_cons_zero]
    rw [List.getElem?_append_left (by omega)]
  | 1, _ =>
    simp only [Nat.one_mul, Nat.zero_add, List.getElem?_toArray, List.getElem_cons_succ, List.getElem_cons_zero]
    rw [List.getElem?_append_right (by omega), hp, Nat.add_sub_cancel_left]
theorem ok1 {w : World} {g : Nat} {q : Q} {e : TypeId} {m : Nat × Nat} {k : Nat} (hk : k < 256) (h : w.heap[g]? = some (.cells q.cells.toArray e m)) (hq : Q.Ok w w.heap.size q) : Q.Ok w w.heap.size (.mk k [] 0 (some ⟨g, 0, none⟩) 1 1 [q]) :=
  .mk hk (by omega) (row1 h) (fun x hx => by simp at hx; subst hx; exact hq)
theorem ok2 {w : World} {g : Nat} {p q : Q} {e : TypeId} {m : Nat × Nat} {k : Nat} (hk : k < 256) (h : w.heap[g]? = some (.cells (p.cells ++ q.cells).toArray e m)) (hp : Q.Ok w w.heap.size p) (hq : Q.Ok w w.heap.size q) : Q.Ok w w.heap.size (.mk k [] 0 (some ⟨g, 0, none⟩) 2 2 [p, q]) :=
  .mk hk (by omega) (row2 h) (fun x hx => by
    simp at hx
    rcases hx with rfl | rfl
    · exact hp
    · exact hq)
section
variable {tm : Int} {ts : List (List UInt8)} {p q : Q} {g : Nat}
theorem has_not : Q.has tm ts (.mk 5 [] 0 (some ⟨g, 0, none⟩) 1 1 [q]) = !Q.has tm ts q := by rw [Q.has5, Q.hasOne1]; simp
theorem has_and : Q.has tm ts (.mk 3 [] 0 (some ⟨g, 0, none⟩) 2 2 [p, q]) = (Q.has tm ts p && Q.has tm ts q) := by rw [Q.has3]; simp [Q.hasAll]
theorem has_or : Q.has tm ts (.mk 4 [] 0 (some ⟨g, 0, none⟩) 2 2 [p, q]) = (Q.has tm ts p || Q.has tm ts q) := by rw [Q.has4]; simp [Q.hasOne]
end
/-- what 'not' makes: a query over a row of one in new memory -/
def NotOf (K : Int) (t : List UInt8) (z : Int) (A : Option Addr) (n c : Nat) (w : World) (e : Ending) (w' : World) : Prop :=
  ∃ g, e = .returned (.agg #[.int .u8 5, .string ⟨#[]⟩, .int .i64 0, .slice (some ⟨g, 0, none⟩) 1 1]) ∧ w'.heap[g]? = some (.cells #[.int .u8 K, .string ⟨t.toArray⟩, .int .i64 z, .slice A n c] 25 (0, 0)) ∧ Below w.heap.size w w' ∧ w.heap.size ≤ g

end Go.Proofs.YtfapkpaohkdfpaaGreatDoor
