/-
  What Decode does, the program's and the document's, by contracts.
-/
import Derived.Test.YtlmidhhonnnocaaDoorPostD
namespace Go.Proofs.YtlmidhhonnnocaaDoor
open Go.RowKit Mem
set_option linter.unusedVariables false
set_option maxRecDepth 100000

def DecTells (r : List Int × Nat × Nat) (w : World) (e : Ending) (w' : World) : Prop := ∃ v, e = .returned (.tuple #[v, .int .i64 (r.2.1 : Int), .int .i64 (r.2.2 : Int)]) ∧ OwnV w' w.heap.size 3 v (ints r.1) ∧ Below w.heap.size w w'
/-- j numbers are read, the last one being 'last'; what is left gives the answer -/
def Took (p : List UInt8) (at_ below : Int) (many j f : Nat) (last : Int) (acc : List Int) : Prop := M.dec p at_ below = M.decs p below (many - j) f (last + 1) acc ∧ acc.length = j ∧ j ≤ f ∧ f ≤ p.length
section
variable {p : List UInt8} {at_ below last : Int} {many j f g t x : Nat} {acc : List Int}
theorem Took.start (h : M.rdAt p at_ = (many, f, 0)) (h2 : ¬ (below < 0 ∨ below < (many : Int))) : Took p at_ below many 0 f (-1) [] := by
  have h3 := M.rdAt_le (l := p) (k := at_) (by rw [h])
  rw [h] at h3
  exact ⟨by rw [M.dec_on (by rw [h]) (by rw [h]; exact h2), h]; rfl, rfl, by omega, by simp only at h3; omega⟩
theorem Took.err (h : Took p at_ below many j f last acc) (hj : j < many) (hr : M.rdAt p f = (g, t, x)) (hx : x ≠ 0) : M.dec p at_ below = ([], 0, x) := by
  rw [h.1, show many - j = (many - j - 1) + 1 from by omega, M.decs_err (by rw [hr]; exact hx), hr]
theorem Took.out (h : Took p at_ below many j f last acc) (hj : j < many) (hr : M.rdAt p f = (g, t, 0)) (hg : below - (last + 1) ≤ (g : Int)) : M.dec p at_ below = ([], 0, 6) := by
  rw [h.1, show many - j = (many - j - 1) + 1 from by omega, M.decs_out (by rw [hr]) (by rw [hr]; exact hg)]
theorem Took.on (h : Took p at_ below many j f last acc) (hj : j < many) (hr : M.rdAt p f = (g, t, 0)) (hg : ¬ below - (last + 1) ≤ (g : Int)) {v v' : Int} (hv : v = last + g + 1) (hv' : v' = last + g + 1) : Took p at_ below many (j + 1) t v (acc ++ [v']) := by
  subst hv hv'
  have h3 := M.rdAt_le (l := p) (k := f) (by rw [hr])
  rw [hr] at h3
  have h1 := h.2.1
  have h2 := h.2.2.1
  simp only [Int.toNat_natCast] at h3
  refine ⟨?_, by simp [h1], by omega, by omega⟩
  rw [h.1, show many - j = (many - j - 1) + 1 from by omega, M.decs_on (by rw [hr]) (by rw [hr]; exact hg), hr]
  simp only
  rw [show many - (j + 1) = many - j - 1 from by omega, show last + 1 + (g : Int) = last + g + 1 from by omega]
theorem Took.end_ (h : Took p at_ below many j f last acc) (hj : ¬ j < many) : M.dec p at_ below = (acc, f, 0) := by
  rw [h.1, show many - j = 0 from by omega, M.decs]
theorem Took.room (h : Took p at_ below many j f last acc) (hj : j < many) (hr : M.rdAt p f = (g, t, 0)) (hroom : many * 8 ≤ 140737488355328 ∨ p.length * 8 ≤ 140737488355328) : (acc.length + 1) * 8 ≤ 140737488355328 := by
  have h3 := M.rdAt_le (l := p) (k := f) (by rw [hr])
  rw [hr] at h3
  have h1 := h.2.1
  have h2 := h.2.2.1
  simp only [Int.toNat_natCast] at h3
  omega
end
theorem rest_wrap {x last : Int} (h : -1 ≤ last) (hx : last < x) (hm : x ≤ 9223372036854775807) : IntKind.u64.wrap (wrap64 (wrap64 (x - last) - 1)) = x - last - 1 := by
  rw [gap_wrap h hx hm]; omega

end Go.Proofs.YtlmidhhonnnocaaDoor
