/-
  More words for memory: bytes of the call's own that are looked into and stored into.
-/
import Derived.Test.YtjdkpcibdjhdoaaDoorMem
import Derived.Laws.OwnMore
namespace Go.Proofs.YtjdkpcibdjhdoaaDoor.Mem
open Go.RowKit

section
variable {w w' : World} {base g c : Nat} {e : TypeId} {v : Value} {l : List UInt8}
theorem Own.form (h : Own w base e v l) (hl : 0 < l.length) : ∃ g c, v = .slice (some ⟨g, 0, none⟩) l.length c ∧ base ≤ g ∧ g < w.heap.size ∧ l.length ≤ c ∧ c ≤ 9223372036854775807 ∧
    (∀ j, j < l.length → w.cell? ⟨g, j, none⟩ = some (.int .u8 ((l[j]?.getD 0).toNat : Int))) ∧ ∀ j, w.frozen? ⟨g, j, none⟩ = false := by
  have hx := h
  rcases h.2 with ⟨_, h0⟩ | ⟨g, cap, cur, rfl, hg, hh, hnc, hcm, _⟩
  · omega
  · refine ⟨g, cap, rfl, hg, (Array.getElem?_eq_some_iff.1 hh).1, hnc, by simpa only [maxLen] using hcm, fun j hj => ?_, fun j => World.ownsRow.frozenAt hx j⟩
    rw [World.ownsRow.cellAt hx j (by omega), bcells_at hj]
theorem Own.stored (h : Own w base e (.slice (some ⟨g, 0, none⟩) l.length c) l) (j : Nat) (b : UInt8) :
    Own (w.setCell ⟨g, j, none⟩ (.int .u8 (b.toNat : Int))) base e (.slice (some ⟨g, 0, none⟩) l.length c) (l.set j b) := by
  have := (World.ownsRow.stored h j (.int .u8 (b.toNat : Int))).1
  unfold Own
  rw [List.length_set]
  have e1 : bcells (l.set j b) = (bcells l).set j (.int .u8 (b.toNat : Int)) := by simp [bcells, bcell, List.map_set]
  rw [e1]
  exact this
theorem Rd.setCell {B n k : Nat} {A : Option Addr} {l : List UInt8} (h : Rd w B A n k l) {p : Addr} (hp : B ≤ p.block) (u : Value) : Rd (w.setCell p u) B A n k l :=
  h.keep fun q hq => World.cell?_setCell_other w p q u (fun e => by subst e; omega)
end
end Go.Proofs.YtjdkpcibdjhdoaaDoor.Mem
