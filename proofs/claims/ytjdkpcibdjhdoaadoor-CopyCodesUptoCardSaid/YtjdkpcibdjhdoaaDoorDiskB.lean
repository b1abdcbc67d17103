/-
  A disk's own block, and what begin and Arm do to it.
-/
import Derived.Test.YtjdkpcibdjhdoaaDoorDiskA
import Derived.Test.YtjdkpcibdjhdoaaDoorTurn
namespace Go.Proofs.YtjdkpcibdjhdoaaDoor
open Go.RowKit Mem

/-- the block of a disk: its numbers, and the block b of its map -/
def DB (w : World) (D : Nat) (room used : Int) (b : Nat) (ops fuse : Int) (off : Bool) : Prop :=
  w.heap[D]? = some (.cells #[.int .i64 room, .int .i64 used, .map (some b), .int .i64 ops, .int .i64 fuse, .bool off] 76 (0, 0))

section
variable {w : World} {D b : Nat} {room used ops fuse : Int} {off : Bool}
theorem DB.c0 (h : DB w D room used b ops fuse off) : w.cell? ⟨D, 0, none⟩ = some (.int .i64 room) := (cellAt 0 h).trans rfl
theorem DB.c1 (h : DB w D room used b ops fuse off) : w.cell? ⟨D, 1, none⟩ = some (.int .i64 used) := (cellAt 1 h).trans rfl
theorem DB.c2 (h : DB w D room used b ops fuse off) : w.cell? ⟨D, 2, none⟩ = some (.map (some b)) := (cellAt 2 h).trans rfl
theorem DB.c3 (h : DB w D room used b ops fuse off) : w.cell? ⟨D, 3, none⟩ = some (.int .i64 ops) := (cellAt 3 h).trans rfl
theorem DB.c4 (h : DB w D room used b ops fuse off) : w.cell? ⟨D, 4, none⟩ = some (.int .i64 fuse) := (cellAt 4 h).trans rfl
theorem DB.c5 (h : DB w D room used b ops fuse off) : w.cell? ⟨D, 5, none⟩ = some (.bool off) := (cellAt 5 h).trans rfl
theorem DB.free (h : DB w D room used b ops fuse off) (i : Nat) : w.frozen? ⟨D, i, none⟩ = false := freeAt i h
theorem DB.s1 (h : DB w D room used b ops fuse off) (x : Int) : DB (w.setCell ⟨D, 1, none⟩ (.int .i64 x)) D room x b ops fuse off := (heapSet 1 _ h).trans rfl
theorem DB.s3 (h : DB w D room used b ops fuse off) (x : Int) : DB (w.setCell ⟨D, 3, none⟩ (.int .i64 x)) D room used b x fuse off := (heapSet 3 _ h).trans rfl
theorem DB.s4 (h : DB w D room used b ops fuse off) (x : Int) : DB (w.setCell ⟨D, 4, none⟩ (.int .i64 x)) D room used b ops x off := (heapSet 4 _ h).trans rfl
theorem DB.s5 (h : DB w D room used b ops fuse off) (x : Bool) : DB (w.setCell ⟨D, 5, none⟩ (.bool x)) D room used b ops fuse x := (heapSet 5 _ h).trans rfl
theorem DB.lt (h : DB w D room used b ops fuse off) : D < w.heap.size := heapLt h
end

def Begun (D : Nat) (room used : Int) (b : Nat) (ops fuse : Int) (off : Bool) (w : World) (e : Ending) (w' : World) : Prop :=
  e = .returned (.int .i64 (if fuse = 1 then 10 else 0)) ∧ DB w' D room used b (ops + 1) (if fuse = 0 then 0 else fuse - 1) (off || fuse == 1) ∧ Turned (· = D) w w'

set_option maxRecDepth 100000 in
set_option maxHeartbeats 400000 in
theorem begin_any (D : Nat) (room used : Int) (b : Nat) (ops fuse : Int) (off : Bool) (w : World) (h : DB w D room used b ops fuse off) (ho : 0 ≤ ops) (ho2 : ops < 9223372036854775807) (hf : 0 ≤ fuse) (hf2 : fuse ≤ 9223372036854775807) :
    Calls Tryd.prog 91 #[.pointer (some ⟨D, 0, none⟩)] w (Begun D room used b ops fuse off w) := by
  have c3 := h.c3; have c4 := h.c4; have c5 := h.c5; have f3 := h.free 3; have f4 := h.free 4; have f5 := h.free 5
  have h1 := h.s3 (ops + 1)
  have d4 := h1.c4
  have H1 := Lib.hid h1
  have T1 := Lib.hid ((Turned.refl (· = D) w).setCell (p := ⟨D, 3, none⟩) (.inl rfl) (.int .i64 (ops + 1)))
  clear h h1
  by_cases h0 : fuse = 0
  · subst h0
    go_enter Tryd.func91, Tryd.ntmps91
    go_wp2
    go_ret
    exact ⟨rfl, by simpa using H1.out, T1.out⟩
  · have hq : (fuse == 0) = false := by simpa using h0
    have h2 := H1.out.s4 (fuse - 1)
    have e4 := h2.c4
    have H2 := Lib.hid h2
    have T2 := Lib.hid (T1.out.setCell (p := ⟨D, 4, none⟩) (.inl rfl) (.int .i64 (fuse - 1)))
    clear h2
    by_cases h1 : fuse = 1
    · subst h1
      go_enter Tryd.func91, Tryd.ntmps91
      go_wp2
      go_ret
      exact ⟨rfl, by simpa using H2.out.s5 true, T2.out.setCell (p := ⟨D, 5, none⟩) (.inl rfl) _⟩
    · have hq1 : 0 < fuse - 1 := by omega
      go_enter Tryd.func91, Tryd.ntmps91
      go_wp2
      go_ret
      have e1 : (fuse == 1) = false := by simpa using h1
      refine ⟨by rw [if_neg h1]; rfl, ?_, T2.out⟩
      rw [if_neg h0, e1, Bool.or_false]
      exact H2.out
end Go.Proofs.YtjdkpcibdjhdoaaDoor
