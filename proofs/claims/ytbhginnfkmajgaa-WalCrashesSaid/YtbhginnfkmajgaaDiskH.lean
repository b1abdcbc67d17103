/-
  What lose does, by contract.
-/
import Derived.Test.YtbhginnfkmajgaaDiskG
namespace Go.Proofs.Ytbhginnfkmajgaa
open Go.RowKit Mem FM

/-- how many bytes are left, and durable, of n of which so many were durable -/
def left (n sure : Nat) (keep : Int) : Nat := if keep ≤ 0 then sure else if keep ≤ ((n - sure : Nat) : Int) then sure + keep.toNat else n
theorem left_le {n sure : Nat} {keep : Int} (h : sure ≤ n) : sure ≤ left n sure keep ∧ left n sure keep ≤ n := by
  unfold left
  split
  · omega
  · split <;> omega

set_option maxRecDepth 100000 in
set_option maxHeartbeats 400000 in
theorem lose_any (g : Nat) (A : Option Addr) (n c sure : Nat) (keep : Int) (w : World) (hc : n ≤ c) (hcm : c ≤ 9223372036854775807) (hs : sure ≤ n) (hk : -9223372036854775808 ≤ keep) (hk2 : keep ≤ 9223372036854775807)
    (h : w.heap[g]? = some (.cells #[.slice A n c, .int .i64 sure] 67 (0, 0))) :
    Calls Try.prog 28 #[.pointer (some ⟨g, 0, none⟩), .int .i64 keep] w (fun e w' => e = .returned (.int .i64 ((n - left n sure keep : Nat) : Int)) ∧
      w'.heap[g]? = some (.cells #[.slice A (left n sure keep) c, .int .i64 (left n sure keep : Nat)] 67 (0, 0)) ∧ Turned (· = g) w w') := by
  obtain ⟨hl1, hl2⟩ := left_le (keep := keep) hs
  have HL := Lib.hid (show left n sure keep = if keep ≤ 0 then sure else if keep ≤ ((n - sure : Nat) : Int) then sure + keep.toNat else n from rfl)
  have k0 : w.cell? ⟨g, 0, none⟩ = some (.slice A n c) := (cellAt 0 h).trans rfl
  have k1 : w.cell? ⟨g, 1, none⟩ = some (.int .i64 sure) := (cellAt 1 h).trans rfl
  have f0 := freeAt 0 h
  have f1 := freeAt 1 h
  have HH := Lib.hid h
  clear h
  generalize left n sure keep = m at *
  have hw1 : IntKind.i64.wrap ((n : Int) - (sure : Int)) = (n : Int) - (sure : Int) := IntWalk.i64_in _ (by omega)
  by_cases h1 : keep < 0
  · have hm : m = sure := by rw [HL.out, if_pos (by omega)]
    subst hm
    have HM := Lib.hid (show 0 ≤ m from Nat.zero_le _)
    clear HL
    go_enter Try.func28, Try.ntmps28
    go_wp2_with fail
    go_quiet (fail)
    clear hw1
    go_wp2_with fail
    skip
    have q0 : ((w.drewN nq).setCell ⟨g, 1, none⟩ (.int .i64 (m : Int))).cell? ⟨g, 0, none⟩ = some (.slice A n c) := (cellAt 0 (heapSet (w := w.drewN nq) 1 _ HH.out)).trans rfl
    have q1 : ((w.drewN nq).setCell ⟨g, 1, none⟩ (.int .i64 (m : Int))).cell? ⟨g, 1, none⟩ = some (.int .i64 (m : Int)) := (cellAt 1 (heapSet (w := w.drewN nq) 1 _ HH.out)).trans rfl
    have q2 := freeAt 0 (heapSet (w := w.drewN nq) 1 (.int .i64 (m : Int)) HH.out)
    go_region
    go_wp2
    go_ret
    refine ⟨congrArg (fun z : Int => Ending.returned (Value.int IntKind.i64 z)) (?_ : (_ : Int) = ((n - m : Nat) : Int)), (heapSet (w := (w.drewN nq).setCell ⟨g, 1, none⟩ (.int .i64 (m : Int))) 0 _ (heapSet (w := w.drewN nq) 1 _ HH.out)).trans rfl, ((((Turned.refl (· = g) w).drewN nq).setCell (p := ⟨g, 1, none⟩) (.inl rfl) _).setCell (p := ⟨g, 0, none⟩) (.inl rfl) _).drew⟩
    have := HM.out
    omega
  by_cases h2 : keep ≤ (n : Int) - (sure : Int)
  · obtain ⟨kk, rfl⟩ := Int.eq_ofNat_of_zero_le (show 0 ≤ keep by omega)
    have HM := Lib.hid (show (sure : Int) + (kk : Int) = (m : Int) by
      have := HL.out
      split at this
      · omega
      · rw [if_pos (by omega)] at this; simp only [Int.toNat_natCast] at this; omega)
    clear HL
    go_enter Try.func28, Try.ntmps28
    go_wp2_with fail
    go_quiet (fail)
    clear hw1
    go_wp2_with fail
    rw [HM.out]
    have q0 : ((w.drewN nq).setCell ⟨g, 1, none⟩ (.int .i64 (m : Int))).cell? ⟨g, 0, none⟩ = some (.slice A n c) := (cellAt 0 (heapSet (w := w.drewN nq) 1 _ HH.out)).trans rfl
    have q1 : ((w.drewN nq).setCell ⟨g, 1, none⟩ (.int .i64 (m : Int))).cell? ⟨g, 1, none⟩ = some (.int .i64 (m : Int)) := (cellAt 1 (heapSet (w := w.drewN nq) 1 _ HH.out)).trans rfl
    have q2 := freeAt 0 (heapSet (w := w.drewN nq) 1 (.int .i64 (m : Int)) HH.out)
    go_region
    go_wp2
    go_ret
    refine ⟨congrArg (fun z : Int => Ending.returned (Value.int IntKind.i64 z)) (?_ : (_ : Int) = ((n - m : Nat) : Int)), (heapSet (w := (w.drewN nq).setCell ⟨g, 1, none⟩ (.int .i64 (m : Int))) 0 _ (heapSet (w := w.drewN nq) 1 _ HH.out)).trans rfl, ((((Turned.refl (· = g) w).drewN nq).setCell (p := ⟨g, 1, none⟩) (.inl rfl) _).setCell (p := ⟨g, 0, none⟩) (.inl rfl) _).drew⟩
    have := HM.out
    omega
  · have HM := Lib.hid (show (sure : Int) + ((n : Int) - (sure : Int)) = (m : Int) by
      have := HL.out
      rw [if_neg (by omega), if_neg (by omega)] at this; omega)
    clear HL
    go_enter Try.func28, Try.ntmps28
    go_wp2_with fail
    go_quiet (fail)
    clear hw1
    go_wp2_with fail
    rw [HM.out]
    have q0 : ((w.drewN nq).setCell ⟨g, 1, none⟩ (.int .i64 (m : Int))).cell? ⟨g, 0, none⟩ = some (.slice A n c) := (cellAt 0 (heapSet (w := w.drewN nq) 1 _ HH.out)).trans rfl
    have q1 : ((w.drewN nq).setCell ⟨g, 1, none⟩ (.int .i64 (m : Int))).cell? ⟨g, 1, none⟩ = some (.int .i64 (m : Int)) := (cellAt 1 (heapSet (w := w.drewN nq) 1 _ HH.out)).trans rfl
    have q2 := freeAt 0 (heapSet (w := w.drewN nq) 1 (.int .i64 (m : Int)) HH.out)
    go_region
    go_wp2
    go_ret
    refine ⟨congrArg (fun z : Int => Ending.returned (Value.int IntKind.i64 z)) (?_ : (_ : Int) = ((n - m : Nat) : Int)), (heapSet (w := (w.drewN nq).setCell ⟨g, 1, none⟩ (.int .i64 (m : Int))) 0 _ (heapSet (w := w.drewN nq) 1 _ HH.out)).trans rfl, ((((Turned.refl (· = g) w).drewN nq).setCell (p := ⟨g, 1, none⟩) (.inl rfl) _).setCell (p := ⟨g, 0, none⟩) (.inl rfl) _).drew⟩
    have := HM.out
    omega
end Go.Proofs.Ytbhginnfkmajgaa
