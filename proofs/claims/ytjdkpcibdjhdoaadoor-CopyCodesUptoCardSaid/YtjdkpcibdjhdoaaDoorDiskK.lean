/-
  awake, the document's example, by the contracts.
-/
import Derived.Test.YtjdkpcibdjhdoaaDoorDiskJ
import Derived.Lib.SlBytesConst
namespace Go.Proofs.YtjdkpcibdjhdoaaDoor
open Go.RowKit Mem FM

def Yes (w : World) (e : Ending) (w' : World) : Prop := e = .returned (.bool true) ∧ Below w.heap.size w w'

def nmA : ByteArray := ⟨#[97]⟩
def aw0 : St := St.new 10
def aw1 : St := (appended aw0 nmA [49, 50, 51, 52, 53]).2
def aw2 : St := (synced aw1 nmA).2
def aw3 : St := (appended aw2 nmA [54, 55, 56]).2
def aw4 : St := restarted aw3 [2]
theorem aw1_ok : (appended aw0 nmA [49, 50, 51, 52, 53]).1 = 0 := by decide
theorem aw2_ok : (synced aw1 nmA).1 = 0 := by decide
theorem aw3_ok : (appended aw2 nmA [54, 55, 56]).1 = 0 := by decide
theorem aw_ops : aw0.ops + 1 < 1099511627776 ∧ aw1.ops + 1 < 1099511627776 ∧ aw2.ops + 1 < 1099511627776 := by decide
theorem aw4_sure : ((find nmA.data.toList aw4.files).map fun f => (f.sure : Int)).getD 0 = 7 := by decide

theorem DiskAt.foot {w : World} {F : Nat → Prop} {D : Nat} {s : St} (h : DiskAt w F D s) {k : Nat} (hk : F k) : k < w.heap.size := by
  obtain ⟨_, _, _, _, _, _, _, _, _, _, _, _, h⟩ := h
  exact h k hk
/-- a slice of one value, just laid -/
theorem rdv_one (w : World) (t : TypeId) (x : Value) : RdV (w.alloc (.cells #[x] t)) (w.heap.size + 1) (some ⟨w.heap.size, 0, none⟩) 1 1 [x] :=
  ⟨rfl, Nat.le_refl _, by simp [maxLen], fun _ => ⟨w.heap.size, 0, rfl, by omega, fun j hj => by
    obtain rfl : j = 0 := by omega
    exact (cellAt (w := w.alloc (.cells #[x] t)) (g := w.heap.size) 0 (heapNew _)).trans rfl⟩⟩
/-- a step of the disk, seen from the world in which its owner began -/
theorem Did.step {F : Nat → Prop} {D : Nat} {x : Int} {s : St} {w w1 w2 : World} {e : Ending} (h : Did F D x s w1 e w2) (hF : ∀ k, F k → w.heap.size ≤ k) (hb : Below w.heap.size w w1) :
    e = .returned (.int .i64 x) ∧ ∃ F', DiskAt w2 F' D s ∧ (∀ k, F' k → w.heap.size ≤ k) ∧ Below w.heap.size w w2 := by
  obtain ⟨h1, F', h2, h3, h4⟩ := h
  exact ⟨h1, F', h2, fun k hk => (h4 k hk).elim (hF k) (fun h => Nat.le_trans hb.size h), hb.trans (h3.below hb.size hF)⟩

end Go.Proofs.YtjdkpcibdjhdoaaDoor
