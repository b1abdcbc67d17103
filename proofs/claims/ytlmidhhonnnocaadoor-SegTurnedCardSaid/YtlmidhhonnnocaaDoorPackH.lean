/-
  What putSum, Four, readSum, bytes.Clone and the two Frames do, by contracts.
-/
import Derived.Test.YtlmidhhonnnocaaDoorPackF
import Derived.Test.YtlmidhhonnnocaaDoorMemB
import Derived.Test.YtlmidhhonnnocaaDoorFrameMath
namespace Go.Proofs.YtlmidhhonnnocaaDoor
open Go.RowKit Mem

theorem Own.fresh (w : World) (base : Nat) (e : TypeId) (cs : Array Value) (l : List UInt8) (hl : cs.toList = bcells l) (hb : base ≤ w.heap.size) (hn : l.length ≤ 9223372036854775807) :
    Own (w.alloc (.cells cs e)) base e (.slice (some ⟨w.heap.size, 0, none⟩) l.length l.length) l := by
  refine ⟨by rw [bcells_len]; omega, .inr ⟨w.heap.size, l.length, cs, rfl, hb, heap_alloc_new w _, Nat.le_refl _, by simpa only [maxLen] using hn, ?_, ?_⟩⟩
  · have := congrArg List.length hl
    rw [bcells_len] at this
    simpa using this
  · rw [hl, Nat.mul_one, List.take_of_length_le (by rw [bcells_len]; exact Nat.le_refl _)]

theorem four_cells (s : Nat) (hs : s < 4294967296) : (#[Value.int .u8 ((s : Int) / 16777216), .int .u8 ((s : Int) / 65536 % 256), .int .u8 ((s : Int) / 256 % 256), .int .u8 ((s : Int) % 256)] : Array Value).toList = bcells (M.four s) := by
  simp only [bcells, bcell, M.four, List.map_cons, List.map_nil]
  rw [M.toNat_of (Nat.mod_lt _ (by omega)), M.toNat_of (Nat.mod_lt _ (by omega)), M.toNat_of (Nat.mod_lt _ (by omega)), M.toNat_of (Nat.mod_lt _ (by omega))]
  rw [show ((s : Int) / 16777216) = ((s / 16777216 % 256 : Nat) : Int) from by omega]
  rfl

set_option maxRecDepth 100000 in
set_option maxHeartbeats 1000000 in
theorem ref_four_any (s : Nat) (w : World) (hs : s < 4294967296) : Calls Tryd.prog 38 #[.int .u32 s] w (Gives w (M.four s)) := by
  go_enter Tryd.func38, Tryd.ntmps38
  go_wp2
  go_ret
  exact ⟨_, rfl, Own.fresh w w.heap.size _ _ (M.four s) (four_cells s hs) (Nat.le_refl _) (by rw [M.four_len]; omega), (Below.refl _ _).alloc (Nat.le_refl _) _⟩

/-- onto what the caller owns -/
def Grows (w : World) (base : Nat) (v0 : Value) (l : List UInt8) (e : Ending) (w' : World) : Prop :=
  ∃ v, e = .returned v ∧ Own w' base 5 v l ∧ w.grownBy w' v0.ownBlock

theorem or_byte (a x y : Nat) (hx : x < 256) (ha : a < 16777216) (hy : y = a * 256 + x) : bits BinOp.or IntKind.u32 ((a : Int) * 256) (x : Int) = (y : Int) := by
  rw [show ((a : Int) * 256) = ((a * 256 : Nat) : Int) from by omega, u32_or_nat _ _ (by omega) (by omega), nat_join 8 _ _ (by omega) (by omega), hy]

end Go.Proofs.YtlmidhhonnnocaaDoor
