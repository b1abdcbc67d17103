/-
  What putSum, Four, readSum, bytes.Clone and the two Frames do, by contracts.
-/
import Derived.Test.YtjdkpcibdjhdoaaDoorPackF
import Derived.Test.YtjdkpcibdjhdoaaDoorMemB
import Derived.Test.YtjdkpcibdjhdoaaDoorFrameMath
namespace Go.Proofs.YtjdkpcibdjhdoaaDoor
open Go.RowKit Mem

theorem Own.fresh (w : World) (base : Nat) (e : TypeId) (cs : Array Value) (l : List UInt8) (hl : cs.toList = bcells l) (hb : base ≤ w.heap.size) (hn : l.length ≤ 9223372036854775807) :
    Own (w.alloc (.cells cs e)) base e (.slice (some ⟨w.heap.size, 0, none⟩) l.length l.length) l := by
  refine ⟨by rw [bcells_len]; omega, .inr ⟨w.heap.size, l.length, cs, rfl, hb, heap_alloc_new w _, Nat.le_refl _, by simpa only [maxLen] using hn, ?_, ?_⟩⟩
  · have := congrArg List.length hl
    rw [bcells_len] at this
    simpa using this
  · rw [hl, Nat.mul_one, List.take_of_length_le (by rw [bcells_len]; exact Nat.le_refl _)]

theorem four_cells (s : Nat) (hs : s < 4294967296) : (#[Value.int .u8 ((s : Int) / 16777216), .int .u8 ((s : Int) / 65536 % 256), .int .u8 ((s : Int) / 256 % 256), .int .u8 ((s : Int) % 256)] : Array Value).toList = bcells (M.four s) := by
  simp only [bcells, bcell, M.four, List.map_cons, List.map_nil]
  rw [M.toNat_of (Nat.mod_lt _ (by omega)), M.toNat_of (Nat.mod_lt _ (by omega)), M.toNat_of (Nat.mod_lt _ (by omega)), M.toNat_of (Nat.mod_lt _ (by omega))]
  rw [show ((s : Int) / 16777216) = ((s / 16777216 % 256 : Nat) : Int) from by omega]
  rfl

/-- onto what the caller owns -/
def Grows (w : World) (base : Nat) (v0 : Value) (l : List UInt8) (e : Ending) (w' : World) : Prop :=
  ∃ v, e = .returned v ∧ Own w' base 5 v l ∧ w.grownBy w' v0.ownBlock

set_option maxRecDepth 100000 in
set_option maxHeartbeats 1000000 in
theorem putSum_any (A : Option Addr) (n c base : Nat) (l : List UInt8) (s : Nat) (w : World) (hn : n = l.length) (h : Own w base 5 (.slice A n c) l) (hbase : base ≤ w.heap.size) (hs : s < 4294967296) (hroom : l.length ≤ 140737488350000) :
    Calls Tryd.prog 102 #[.slice A n c, .int .u32 s] w (Grows w base (.slice A n c) (l ++ M.four s)) := by
  obtain ⟨i0, hi, hz0, hz1, hz2⟩ := info_parts Tryd.info_byte
  have HI := Lib.hid hi; have HZ0 := Lib.hid hz0; have HZ1 := Lib.hid hz1; have HZ2 := Lib.hid hz2
  have HN := Lib.hid hn
  clear hi hz0 hz1 hz2 hn
  go_enter Tryd.func102, Tryd.ntmps102
  go_wp2_with (at_builtin; go_must (refine wpList_app (w.alloc _) rfl (.tmp 5) (.tmp 17) _ rfl base _ _ i0 Tryd.underlying27 HI.out HZ0.out HZ1.out HZ2.out _ l (h.alloc _) rfl _ 4 4 (M.four s) (Rd.fresh w _ _ _ (M.four s) (four_cells s hs) (by rw [M.four_len]; omega)) rfl ?_ ?_ ?_))
  · rw [M.four_len]; omega
  · simp; omega
  intro v' w1 hown hg hat
  go_wp2
  go_ret
  exact ⟨_, rfl, hown, ⟨hg.os, hg.tape, hg.output, Nat.le_trans (by simp) hg.size, fun k hk hne => (hg.block k (by simp; omega) hne).trans (Below.heap_alloc w _ k hk)⟩⟩

theorem or_byte (a x y : Nat) (hx : x < 256) (ha : a < 16777216) (hy : y = a * 256 + x) : bits BinOp.or IntKind.u32 ((a : Int) * 256) (x : Int) = (y : Int) := by
  rw [show ((a : Int) * 256) = ((a * 256 : Nat) : Int) from by omega, u32_or_nat _ _ (by omega) (by omega), nat_join 8 _ _ (by omega) (by omega), hy]

set_option maxRecDepth 100000 in
set_option maxHeartbeats 1000000 in
theorem readSum_any (A : Option Addr) (n c B : Nat) (l : List UInt8) (k : Nat) (w : World) (h : Rd w B A n c l) (hk : k + 4 ≤ n) :
    Calls Tryd.prog 84 #[.slice A n c, .int .i64 k] w fun e w' => e = .returned (.int .u32 (M.be4 (l.drop k) : Nat)) ∧ w = w' := by
  have hc := h.cap
  have hm := h.max
  obtain ⟨b, off, rfl, hb, hcells⟩ := h.2.2.2 (by omega)
  have h0 := hcells (k + 0) (by omega)
  have h1 := hcells (k + 1) (by omega)
  have h2 := hcells (k + 2) (by omega)
  have h3 := hcells (k + 3) (by omega)
  clear hcells
  have e : ∀ j, (l[k + j]?.getD 0).toNat = M.at8 (l.drop k) j := fun j => by simp [M.at8]
  rw [e] at h0 h1 h2 h3
  rw [Nat.add_zero] at h0
  have b0 := M.at8_lt (l.drop k) 0
  have b1 := M.at8_lt (l.drop k) 1
  have b2 := M.at8_lt (l.drop k) 2
  have b3 := M.at8_lt (l.drop k) 3
  have HB := Lib.hid (show M.be4 (l.drop k) = ((M.at8 (l.drop k) 0 * 256 + M.at8 (l.drop k) 1) * 256 + M.at8 (l.drop k) 2) * 256 + M.at8 (l.drop k) 3 from rfl)
  clear e
  generalize M.at8 (l.drop k) 0 = x0 at *
  generalize M.at8 (l.drop k) 1 = x1 at *
  generalize M.at8 (l.drop k) 2 = x2 at *
  generalize M.at8 (l.drop k) 3 = x3 at *
  obtain ⟨y1, hy1⟩ : ∃ y1, y1 = x0 * 256 + x1 := ⟨_, rfl⟩
  obtain ⟨y2, hy2⟩ : ∃ y2, y2 = y1 * 256 + x2 := ⟨_, rfl⟩
  obtain ⟨y3, hy3⟩ : ∃ y3, y3 = y2 * 256 + x3 := ⟨_, rfl⟩
  have o1 : bits BinOp.or IntKind.u32 ((x0 : Int) * 256) (x1 : Int) = (y1 : Int) := or_byte x0 x1 y1 b1 (by omega) hy1
  have o2 : bits BinOp.or IntKind.u32 ((y1 : Int) * 256) (x2 : Int) = (y2 : Int) := or_byte y1 x2 y2 b2 (by omega) hy2
  have o3 : bits BinOp.or IntKind.u32 ((y2 : Int) * 256) (x3 : Int) = (y3 : Int) := or_byte y2 x3 y3 b3 (by omega) hy3
  have hy1b : y1 < 65536 := by omega
  have hy2b : y2 < 16777216 := by omega
  have HY := Lib.hid (show M.be4 (l.drop k) = y3 by rw [HB.out]; omega)
  clear hy1 hy2 hy3
  have o0 : bits BinOp.or IntKind.u32 0 (x0 : Int) = (x0 : Int) := by
    rw [show (0 : Int) = ((0 : Nat) : Int) from rfl, u32_or_nat _ _ (by omega) (by omega), Nat.zero_or]
  go_enter Tryd.func84, Tryd.ntmps84
  go_wp2
  refine wp_loop_rounds 5 ?_
  rw [rounds_succ]
  go_wp2
  rw [rounds_succ]
  go_wp2
  rw [rounds_succ]
  go_wp2
  rw [rounds_succ]
  go_wp2
  rw [rounds_succ]
  go_wp2
  go_ret
  exact ⟨ret_int (by rw [HY.out]), rfl⟩
end Go.Proofs.YtjdkpcibdjhdoaaDoor
