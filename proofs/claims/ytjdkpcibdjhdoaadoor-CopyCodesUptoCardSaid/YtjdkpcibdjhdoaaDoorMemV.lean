/-
  Words for memory: slices of one-cell values (texts, numbers) that came in.
-/
import Derived.Test.YtjdkpcibdjhdoaaDoorMem
import Derived.SliceStrings
import Derived.OpenShut
namespace Go.Proofs.YtjdkpcibdjhdoaaDoor.Mem
open Go.RowKit

/-- the slice (A, n, c) holds the values xs, one cell each, and lies below block B -/
def RdV (w : World) (B : Nat) (A : Option Addr) (n c : Nat) (xs : List Value) : Prop :=
  n = xs.length ∧ n ≤ c ∧ c ≤ maxLen ∧ (0 < n → ∃ b off, A = some ⟨b, off, none⟩ ∧ b < B ∧ ∀ j, j < n → w.cell? ⟨b, off + j, none⟩ = xs[j]?)
theorem RdV.below {w w' : World} {B n c : Nat} {A : Option Addr} {xs : List Value} (h : RdV w B A n c xs) (hb : Below B w w') : RdV w' B A n c xs :=
  ⟨h.1, h.2.1, h.2.2.1, fun hn => by
    obtain ⟨b, off, e, hbB, hc⟩ := h.2.2.2 hn
    exact ⟨b, off, e, hbB, fun j hj => (hb.cell (p := ⟨b, off + j, none⟩) hbB).trans (hc j hj)⟩⟩


theorem rdv_strings (w : World) (x : Addr) (len cap : Nat) (ss : List ByteArray) (hl : len ≤ cap) (hm : cap ≤ maxLen) (hz : ss.length = cap)
    (hcell : ∀ i, i < ss.length → w.cell? (x.add i) = some (.string (ss.getD i ByteArray.empty))) : RdV w w.heap.size (some x) len cap ((ss.take len).map Value.string) := by
  refine ⟨by simp; omega, hl, hm, fun hn => ?_⟩
  obtain ⟨b, off, spot⟩ := x
  have hspot : spot = none := by simpa [Addr.add] using World.cell?_spot (hcell 0 (by omega))
  subst hspot
  refine ⟨b, off, rfl, World.block_lt_of_cell? w _ (hcell 0 (by omega)), fun j hj => ?_⟩
  have h1 := hcell j (by omega)
  have hjz : j < ss.length := by omega
  rw [add_none] at h1
  rw [h1]
  simp [hj, hjz]
theorem rdv_u64 (w : World) (x : Addr) (len cap : Nat) (zs : List Int) (hl : len ≤ cap) (hm : cap ≤ maxLen) (hz : zs.length = cap)
    (hcell : ∀ i, i < zs.length → w.cell? (x.add i) = some (.int .u64 (zs.getD i 0))) (hwz : ∀ n ∈ zs, (Lit.int .u64 n).wf = true) :
    RdV w w.heap.size (some x) len cap (((zs.take len).map Int.toNat).map fun (v : Nat) => Value.int .u64 (v : Int)) := by
  refine ⟨by simp; omega, hl, hm, fun hn => ?_⟩
  obtain ⟨b, off, spot⟩ := x
  have hspot : spot = none := by simpa [Addr.add] using World.cell?_spot (hcell 0 (by omega))
  subst hspot
  refine ⟨b, off, rfl, World.block_lt_of_cell? w _ (hcell 0 (by omega)), fun j hj => ?_⟩
  have h1 := hcell j (by omega)
  have hjz : j < zs.length := by omega
  have hb := bounds_u64 (hwz zs[j] (List.getElem_mem hjz))
  rw [add_none] at h1
  rw [h1]
  simp [hj, hjz, Int.toNat_of_nonneg hb.1]
theorem RdV.none_ {w : World} {B : Nat} : RdV w B none 0 0 [] := ⟨rfl, Nat.le_refl _, Nat.zero_le _, fun h => absurd h (by omega)⟩
end Go.Proofs.YtjdkpcibdjhdoaaDoor.Mem
