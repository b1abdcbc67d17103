/-
  What New, slices.Contains and ready do, by contracts.
-/
import Derived.Test.YtjdkpcibdjhdoaaDoorDiskC
import Derived.Test.YtjdkpcibdjhdoaaDoorMemV
import Derived.Carry
import Derived.Laws.Strings
namespace Go.Proofs.YtjdkpcibdjhdoaaDoor
open Go.RowKit Mem FM

def St.new (room : Nat) : St := ⟨room, [], 0, 0, false⟩
def Made (room : Nat) (w : World) (e : Ending) (w' : World) : Prop :=
  ∃ D F, e = .returned (.tuple #[.pointer (some ⟨D, 0, none⟩), .int .i64 0]) ∧ DiskAt w' F D (St.new room) ∧ (∀ k, F k → w.heap.size ≤ k) ∧ Below w.heap.size w w'

set_option maxRecDepth 100000 in
set_option maxHeartbeats 400000 in
theorem new_any (room : Nat) (w : World) (hr : room ≤ 67108864) : Calls Tryd.prog 11 #[.int .i64 room] w (Made room w) := by
  go_enter Tryd.func11, Tryd.ntmps11
  go_wp2_with fail
  rw [run_makeMap]
  go_wp2
  go_ret2
  refine ⟨w.heap.size + 1, fun k => k = w.heap.size ∨ k = w.heap.size + 1, rfl, ⟨w.heap.size, 0, [], ?_, .inr rfl, ⟨.map [], ?_, .inl rfl, MapOf.empty, List.Pairwise.nil, List.Pairwise.nil, by simp⟩, Nat.le_refl _, rfl, Nat.zero_le _, hr, by simp [St.new], by simp [St.new], ?_⟩, fun k hk => by omega, ?_⟩
  · have := heapNew (w := w.alloc (.map #[] 0)) (.cells #[.int .i64 room, .int .i64 0, .map (some w.heap.size), .int .i64 0, .int .i64 0, .bool false] 76 (0, 0))
    rw [show (w.alloc (.map #[] 0)).heap.size = w.heap.size + 1 by simp] at this
    exact this
  · exact (World.ownsMap_made w Tryd.prog _ rdPtr).alloc _
  · intro k hk; simp; omega
  · exact ((Below.refl _ w).alloc (Nat.le_refl _) _).alloc (by simp) _

theorem bytes_ne {s t : ByteArray} (h : s ≠ t) : (s.toList == t.toList) = false := by
  rw [beq_eq_false_iff_ne]
  intro e
  apply h
  rw [ByteArray.toList_eq, ByteArray.toList_eq] at e
  obtain ⟨⟨a⟩⟩ := s
  obtain ⟨⟨b⟩⟩ := t
  simpa using e

/-- the answer x, and nothing has turned -/
def Errs (x : Int) (w : World) (e : Ending) (w' : World) : Prop := e = .returned (.int .i64 x) ∧ w' = w

set_option maxRecDepth 100000 in
set_option maxHeartbeats 400000 in
theorem index_any (A : Option Addr) (n c B : Nat) (ss : List ByteArray) (s : ByteArray) (w : World) (h : RdV w B A n c (ss.map Value.string)) :
    Calls Tryd.prog 95 #[.slice A n c, .string s] w fun e w' => ∃ r : Int, e = .returned (.int .i64 r) ∧ w' = w ∧ (0 ≤ r ↔ s ∈ ss) := by
  have hc := h.2.1
  have hm : c ≤ 9223372036854775807 := h.2.2.1
  have HN := Lib.hid h.1
  go_enter Tryd.func95, Tryd.ntmps95
  go_wp2
  go_loop [8] (fun p => ∃ i : Nat, p = .int .i64 i ∧ i ≤ n ∧ Hid (∀ j, j < i → ss[j]? ≠ some s)) (fun p => n - (intOf p).toNat)
  case atStart => exact ⟨0, rfl, by omega, Lib.hid (by omega)⟩
  case round =>
    obtain ⟨i, rfl, hi, HI⟩ := hrel
    by_cases hlt : i < n
    · obtain ⟨bb, off, rfl, hB, hcell⟩ := h.2.2.2 (by omega)
      have hci := hcell i hlt
      have HL := Lib.hid (show i < ss.length by have := HN.out; simp at this; omega)
      have hss : (ss.map Value.string)[i]? = some (.string (ss[i]'HL.out)) := by simp [HL.out]
      rw [hss] at hci
      have HE := Lib.hid (show ss[i]? = some (ss[i]'HL.out) by simp)
      generalize ss[i]'HL.out = t at *
      clear hcell hss
      by_cases hst : s = t
      · have hq : (s.toList == t.toList) = true := by rw [hst]; exact beq_self_eq_true _
        subst hst
        go_wp2
        go_ret
        exact ⟨(i : Int), rfl, rfl, by constructor; (intro _; exact List.mem_of_getElem? HE.out); (intro _; omega)⟩
      · have hq : (s.toList == t.toList) = false := bytes_ne hst
        go_wp2
        go_round
        case rel =>
          refine ⟨i + 1, by go_num, by omega, Lib.hid fun j hj => ?_⟩
          rcases Nat.lt_or_ge j i with h1 | h1
          · exact HI.out j h1
          · obtain rfl : j = i := by omega
            rw [HE.out]; intro e; injection e with e; exact hst e.symm
        case measure => simp [intOf]; omega
    · go_wp2
      go_ret
      refine ⟨-1, rfl, rfl, by constructor; (intro h; omega); (intro hmem; exfalso; obtain ⟨j, hj⟩ := List.mem_iff_getElem?.1 hmem; have := HN.out; simp at this; exact HI.out j (by have := (List.getElem?_eq_some_iff.1 hj).1; omega) hj)⟩

set_option maxRecDepth 100000 in
set_option maxHeartbeats 400000 in
theorem contains_any (A : Option Addr) (n c B : Nat) (ss : List ByteArray) (s : ByteArray) (w : World) (h : RdV w B A n c (ss.map Value.string)) :
    Calls Tryd.prog 80 #[.slice A n c, .string s] w fun e w' => ∃ r : Bool, e = .returned (.bool r) ∧ w' = w ∧ (r = true ↔ s ∈ ss) := by
  go_enter Tryd.func80, Tryd.ntmps80
  go_wp2_with fail
  refine (index_any A n c B ss s w h).mono ?_
  rintro e w1 ⟨r, rfl, rfl, hr⟩
  have HR := Lib.hid hr
  clear hr
  go_wp2
  go_ret
  exact ⟨_, rfl, rfl, by rw [← HR.out]; exact decide_eq_true_iff⟩

/-- why a call with this name is refused -/
def ready1 (s : ByteArray) (off : Bool) : Int := if nameOk s = true then (if off then 10 else 0) else 1

set_option maxRecDepth 100000 in
set_option maxHeartbeats 400000 in
theorem ready_one (D B : Nat) (s : ByteArray) (off : Bool) (w : World) (hs : s.size ≤ 9223372036854775807) (hoff : w.cell? ⟨D, 5, none⟩ = some (.bool off)) (hn : w.cell? ⟨B, 0, none⟩ = some (.string s)) :
    Calls Tryd.prog 69 #[.pointer (some ⟨D, 0, none⟩), .slice (some ⟨B, 0, none⟩) 1 1] w (Errs (ready1 s off) w) := by
  have HC := Lib.hid (contains_any (some ⟨B, 0, none⟩) 0 1 (B + 1) [] s w ⟨rfl, by omega, by simp [maxLen], fun h => absurd h (by omega)⟩)
  have HNA := Lib.hid (name_any s w hs)
  have HR := Lib.hid (show ready1 s off = if nameOk s = true then (if off then 10 else 0) else 1 from rfl)
  cases hok : nameOk s
  · go_enter Tryd.func69, Tryd.ntmps69
    go_wp2
    go_loop [11] (fun p => p = .int .i64 0) (fun p => 1 - (intOf p).toNat)
    case atStart => rfl
    case round =>
      subst hrel
      go_wp2_with fail
      refine HNA.out.mono ?_
      rintro e w1 ⟨rfl, rfl⟩
      rw [hok]
      go_wp2
      go_ret
      exact ⟨by rw [HR.out, hok]; rfl, rfl⟩
  · go_enter Tryd.func69, Tryd.ntmps69
    go_wp2
    go_loop [11] (fun p => p = .int .i64 0 ∨ p = .int .i64 1) (fun p => 1 - (intOf p).toNat)
    case atStart => exact .inl rfl
    case round =>
      rcases hrel with rfl | rfl
      · go_wp2_with fail
        refine HNA.out.mono ?_
        rintro e w1 ⟨rfl, rfl⟩
        rw [hok]
        go_wp2_with fail
        refine HC.out.mono ?_
        rintro e w1 ⟨r, rfl, rfl, hr⟩
        have hr' : r = false := by
          cases r
          · rfl
          · exact absurd (hr.1 rfl) (by simp)
        clear hr
        subst hr'
        go_wp2
        go_round
        case rel => exact .inr rfl
        case measure => simp [intOf]
      · cases off
        · go_wp2
          go_ret
          exact ⟨by rw [HR.out, hok]; rfl, rfl⟩
        · go_wp2
          go_ret
          exact ⟨by rw [HR.out, hok]; rfl, rfl⟩

set_option maxRecDepth 100000 in
set_option maxHeartbeats 400000 in
theorem ready_nil (v : Value) (w : World) : Calls Tryd.prog 69 #[.pointer none, v] w (Errs 8 w) := by
  go_enter Tryd.func69, Tryd.ntmps69
  go_wp2
  go_ret
  exact ⟨rfl, rfl⟩
end Go.Proofs.YtjdkpcibdjhdoaaDoor
