/-
  What the second form's bound gives of each argument: own words over the given count.
-/
import Derived.Test.YtjdkpcibdjhdoaaDoorRows
import Derived.SliceStrings
namespace Go.Proofs.YtjdkpcibdjhdoaaDoor.bulks

theorem all_mem {H : Type} : ∀ {l : List (DataW H)} {j : Nat} {d : DataW H}, l[j]? = some d → Rows.uptoBulk d ≤ Rows.uptoBulkAll l
  | [], j, d, h => by simp at h
  | x :: r, 0, d, h => by
    simp at h; subst h
    simp only [Rows.uptoBulkAll]; omega
  | x :: r, j + 1, d, h => by
    have := all_mem (l := r) (j := j) (d := d) (by simpa using h)
    simp only [Rows.uptoBulkAll]; omega
theorem pos {H : Type} (d : DataW H) : 1 ≤ Rows.uptoBulk d := by
  cases d with
  | lit l => cases l <;> simp [Rows.uptoBulk]
  | _ => simp [Rows.uptoBulk]
theorem many {H : Type} : ∀ l : List (DataW H), l.length ≤ Rows.uptoBulkAll l
  | [] => by simp
  | x :: r => by
    have := many r
    have := pos x
    simp only [Rows.uptoBulkAll, List.length_cons]; omega
theorem within {H : Type} {l : List (DataW H)} (h : Rows.uptoSmall H l = true) : Rows.uptoBulkAll l ≤ 1048576 := of_decide_eq_true h
theorem string_at {H : Type} {l : List (DataW H)} (h : Rows.uptoSmall H l = true) {j : Nat} {b : List UInt8} (hj : l[j]? = some (.lit (.string b))) : b.length ≤ 1048576 := by
  have h1 := all_mem hj
  have h2 := within h
  simp only [Rows.uptoBulk] at h1
  omega
theorem slice_at {H : Type} {l : List (DataW H)} (h : Rows.uptoSmall H l = true) {j : Nat} {x y : List (DataW H)} (hj : l[j]? = some (.slice x y)) : x.length + y.length ≤ 1048576 := by
  have h1 := all_mem hj
  have h2 := within h
  have h3 := many x
  have h4 := many y
  simp only [Rows.uptoBulk] at h1
  omega
theorem strs_sum {H : Type} : ∀ ss : List ByteArray, (ss.map ByteArray.size).sum ≤ Rows.uptoBulkAll (Go.ChangeShapes.strs (H := H) ss)
  | [] => by simp
  | s :: r => by
    have := strs_sum (H := H) r
    simp only [Go.ChangeShapes.strs, List.map_cons, List.sum_cons, Rows.uptoBulkAll, Rows.uptoBulk] at this ⊢
    simp only [Array.length_toList, ByteArray.size_data]
    omega
theorem strs_at {H : Type} {l : List (DataW H)} (h : Rows.uptoSmall H l = true) {j : Nat} {x y : List ByteArray} (hj : l[j]? = some (.slice (Go.ChangeShapes.strs x) (Go.ChangeShapes.strs y))) : (x.map ByteArray.size).sum ≤ 1048576 := by
  have h1 := all_mem hj
  have h2 := within h
  have h3 := strs_sum (H := H) x
  simp only [Rows.uptoBulk] at h1
  omega
end Go.Proofs.YtjdkpcibdjhdoaaDoor.bulks
