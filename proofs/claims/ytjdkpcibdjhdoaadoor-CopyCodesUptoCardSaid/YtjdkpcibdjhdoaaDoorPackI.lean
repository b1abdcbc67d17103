/-
  What bytes.Clone and the two Frames do, by contracts.
-/
import Derived.Test.YtjdkpcibdjhdoaaDoorPackH
namespace Go.Proofs.YtjdkpcibdjhdoaaDoor
open Go.RowKit Mem

set_option maxRecDepth 100000 in
set_option maxHeartbeats 1000000 in
theorem cloneP_any (A : Option Addr) (n c B : Nat) (l : List UInt8) (w : World) (h : Rd w B A n c l) (hB : B ≤ w.heap.size) (hroom : l.length ≤ 140737488355328) :
    Calls Tryd.prog 70 #[.slice A n c] w (GivesP w l) := by
  obtain ⟨i0, hi, hz0, hz1, hz2⟩ := info_parts Tryd.info_byte
  have HI := Lib.hid hi; have HZ0 := Lib.hid hz0; have HZ1 := Lib.hid hz1; have HZ2 := Lib.hid hz2
  clear hi hz0 hz1 hz2
  have hnil := fun (w : World) (a : Option Addr) (n c : Nat) => Lib.run_eql_slice_nil (P := Tryd.prog) w 27 5 a n c 0 0 Tryd.underlying27
  cases A with
  | none =>
    have h0 := h.cells.1 rfl
    subst h0
    have hl : l = [] := List.eq_nil_of_length_eq_zero h.len.symm
    subst hl
    go_enter Tryd.func70, Tryd.ntmps70
    go_wp2
    go_ret
    exact ⟨_, rfl, Own.nil _ _ _, Below.refl _ _⟩
  | some ad =>
    go_enter Tryd.func70, Tryd.ntmps70
    go_wp2_with (at_builtin; go_must (refine wpList_app (w.alloc _) rfl (.tmp 5) (.tmp 6) _ rfl w.heap.size _ _ i0 Tryd.underlying27 HI.out HZ0.out HZ1.out HZ2.out _ [] (Own.fresh w w.heap.size _ #[] [] rfl (Nat.le_refl _) (by simp)) rfl _ n c l (h.alloc hB _) rfl ?_ ?_ ?_))
    · simpa using hroom
    · simp
    intro v' w1 hown hg hat
    have hb := below_own (Own.fresh w w.heap.size 5 #[] [] rfl (Nat.le_refl _) (by simp)) (by simp) hg
    go_wp2
    go_ret
    exact ⟨_, rfl, hown, ((Below.refl _ _).alloc (Nat.le_refl _) _).trans hb⟩

def FrameOf (w : World) (l : List UInt8) (e : Ending) (w' : World) : Prop := ∃ v, e = .returned (.tuple #[v, .int .i64 0]) ∧ Own w' w.heap.size 5 v (M.frame l) ∧ Below w.heap.size w w'

theorem frame_long (A : Option Addr) (n c : Nat) (w : World) (hn : 65535 < n) (hc : n ≤ 9223372036854775807) :
    Calls Tryd.prog 93 #[.slice A n c] w fun e w' => e = .returned (.tuple #[.slice none 0 0, .int .i64 2]) ∧ w = w' := by
  go_enter Tryd.func93, Tryd.ntmps93
  go_wp2
  go_ret2
  exact ⟨rfl, rfl⟩

set_option maxRecDepth 100000 in
set_option maxHeartbeats 1000000 in
theorem frame_any (A : Option Addr) (n c B : Nat) (l : List UInt8) (w : World) (h : Rd w B A n c l) (hB : B ≤ w.heap.size) (hn : n ≤ 65535) :
    Calls Tryd.prog 93 #[.slice A n c] w (FrameOf w l) := by
  obtain ⟨i0, hi, hz0, hz1, hz2⟩ := info_parts Tryd.info_byte
  have HI := Lib.hid hi; have HZ0 := Lib.hid hz0; have HZ1 := Lib.hid hz1; have HZ2 := Lib.hid hz2
  have HN := Lib.hid h.len
  clear hi hz0 hz1 hz2
  have hul := M.uv_len n
  have hsl := M.sum_lt l
  go_enter Tryd.func93, Tryd.ntmps93
  go_wp2_with fail
  refine (uvarint_any n _ (by omega)).mono ?_
  rintro e w1 ⟨q, rfl, hq, hb1⟩
  have hf1 := (Own.fresh w w.heap.size 5 #[.int .u8 241] [241] rfl (Nat.le_refl _) (by simp)).below hb1
  have hB1 := ((Below.refl _ _).alloc (Nat.le_refl _) _).trans (hb1.mono (B' := w.heap.size) (by simp))
  obtain ⟨A1, c1, rfl, hr1⟩ := hq.open_
  go_wp2_with (at_builtin; go_must (refine wpList_app w1 rfl (.tmp 8) (.tmp 12) _ rfl w.heap.size _ _ i0 Tryd.underlying27 HI.out HZ0.out HZ1.out HZ2.out _ [241] hf1 rfl _ _ _ _ hr1 rfl ?_ ?_ ?_))
  · simp; omega
  · exact hB1.size
  intro v2 w2 hv2 hg2 _
  have hB2 := hB1.trans (below_own hf1 hB1.size hg2)
  have hp2 := h.below (hB2.mono hB)
  go_wp2_with fail
  refine (sum_any A n c _ l w2 hp2).mono ?_
  rintro e w2' ⟨rfl, rfl⟩
  obtain ⟨A2, c2, rfl, hr2⟩ := hv2.open_
  go_wp2_with fail
  refine (putSum_any A2 _ c2 w.heap.size _ (M.sum l) w2 rfl hv2 hB2.size hsl (by simp; omega)).mono ?_
  rintro e w3 ⟨v3, rfl, hv3, hg3⟩
  have hB3 := hB2.trans (below_own hv2 hB2.size hg3)
  have hp3 := h.below (hB3.mono hB)
  go_wp2_with (at_builtin; go_must (refine wpList_app w3 rfl (.tmp 18) (.tmp 19) _ rfl w.heap.size _ _ i0 Tryd.underlying27 HI.out HZ0.out HZ1.out HZ2.out _ _ hv3 rfl _ _ _ _ hp3 rfl ?_ ?_ ?_))
  · have := HN.out; simp [M.four_len]; omega
  · exact hB3.size
  intro v4 w4 hv4 hg4 _
  have hB4 := hB3.trans (below_own hv3 hB3.size hg4)
  go_wp2_with (at_builtin; go_must (refine wpList_app1 w4 rfl (.tmp 21) (.tmp 22) _ rfl w.heap.size _ i0 Tryd.underlying27 HI.out HZ0.out HZ1.out HZ2.out _ _ hv4 rfl _ 31 rfl ?_ ?_ ?_ ?_))
  · rfl
  · have := HN.out; simp [M.four_len]; omega
  · exact hB4.size
  intro v5 w5 hv5 hg5 _
  have hB5 := hB4.trans (below_own hv4 hB4.size hg5)
  go_wp2
  go_ret2
  refine ⟨_, rfl, ?_, hB5⟩
  have e : M.frame l = 241 :: (M.uv n ++ (M.four (M.sum l) ++ (l ++ [31]))) := by
    rw [HN.out]; rfl
  rw [e]
  exact hv5

end Go.Proofs.YtjdkpcibdjhdoaaDoor
