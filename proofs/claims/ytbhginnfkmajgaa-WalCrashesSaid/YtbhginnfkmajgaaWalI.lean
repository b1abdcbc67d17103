/-
  The document's Same on two lists of the same records.
-/
import Derived.Test.YtbhginnfkmajgaaWalH
namespace Go.Proofs.Ytbhginnfkmajgaa
open Go.RowKit Mem FM
set_option linter.unusedVariables false
set_option maxRecDepth 100000

theorem RdL.keep {w w' : World} {A : Option Addr} {n c : Nat} {ls : List (List UInt8)} (h : RdL w A n c ls) (hb : Below w.heap.size w w') : RdL w' A n c ls := by
  refine ⟨h.1, h.2.1, h.2.2.1, fun i hi => ?_⟩
  obtain ⟨g, off, A', n', c', hA, hc, hr⟩ := h.2.2.2 i hi
  exact ⟨g, off, A', n', c', hA, (hb.cell (p := ⟨g, off + i, none⟩) (World.block_lt_of_cell? w _ hc)).trans hc, (hr.below hb).more hb.size⟩

set_option maxHeartbeats 1000000 in
theorem same_any (A1 A2 : Option Addr) (n c1 n2 c2 : Nat) (ls : List (List UInt8)) (w : World) (h1 : RdL w A1 n c1 ls) (h2 : RdL w A2 n2 c2 ls) :
    Calls Try.prog 14 #[.slice A1 n c1, .slice A2 n2 c2] w (fun e w' => e = .returned (.bool true) ∧ Below w.heap.size w w') := by
  obtain rfl : n = n2 := h1.1.trans h2.1.symm
  have HN := Lib.hid h1.1
  have hc1 := h1.2.1; have hc2 := h1.2.2.1; have hc3 := h2.2.1; have hc4 := h2.2.2.1
  have H1 := Lib.hid h1; have H2 := Lib.hid h2
  clear h1 h2
  have hq : ((n : Int) != (n : Int)) = false := by simp
  have HB0 := Lib.hid (Below.refl w.heap.size w)
  go_enter Try.func14, Try.ntmps14
  go_wp2
  go_loopw [5] (fun i wr => ∃ k : Nat, i = .int .i64 k ∧ k ≤ n ∧ Hid (Below w.heap.size w wr)) (fun i _ => n - (intOf i).toNat)
  case atStart => exact ⟨0, rfl, Nat.zero_le _, HB0⟩
  case round =>
    obtain ⟨k, rfl, hk, HB⟩ := hrel
    rename World => wr
    by_cases hlt : k < n
    · obtain ⟨g1, o1, A3, n3, c3, e1, v1, r1⟩ := (H1.out.keep HB.out).2.2.2 k (by have := HN.out; omega)
      obtain ⟨g2, o2, A4, n4, c4, e2, v2, r2⟩ := (H2.out.keep HB.out).2.2.2 k (by have := HN.out; omega)
      subst e1
      subst e2
      have y1 := run_str (P := Try.prog) _ _ 34 9 5 Try.underlying34 Try.underlying5 Try.underlying9 _ _ _ _ r1.drew
      have y2 := run_str (P := Try.prog) _ _ 34 9 5 Try.underlying34 Try.underlying5 Try.underlying9 _ _ _ _ r2.drew
      obtain ⟨T, hT⟩ : ∃ T : ByteArray, T = ⟨(ls[k]'(by have := HN.out; omega)).toArray⟩ := ⟨_, rfl⟩
      rw [← hT] at y1 y2
      clear hT r1 r2
      have V := Lib.hid (show wr.drew.cell? ⟨g1, o1 + k, none⟩ = some (.slice A3 n3 c3) ∧ wr.drew.cell? ⟨g2, o2 + k, none⟩ = some (.slice A4 n4 c4) ∧ _ ∧ _ from ⟨v1, v2, y1, y2⟩)
      clear v1 v2 y1 y2
      go_wp2_with fail
      go_region_held3 (fun W => W.cell? ⟨g1, o1 + k, none⟩ = some (.slice A3 n3 c3) ∧ W.cell? ⟨g2, o2 + k, none⟩ = some (.slice A4 n4 c4) ∧ (convert 34 9 (.slice A3 n3 c3)).run Try.prog W = .ok (.string T) W ∧ (convert 34 9 (.slice A4 n4 c4)).run Try.prog W = .ok (.string T) W)
        (first | exact hHeld | exact V.out) (fail)
      go_wp2
      go_roundw
      case rel => exact ⟨k + 1, rfl, by omega, Lib.hid ⟨HB.out.os, HB.out.tape, HB.out.output, HB.out.size, HB.out.block⟩⟩
      case measure => simp [intOf]; omega
    · obtain rfl : k = n := by omega
      go_wp2
      go_ret
      exact ⟨rfl, HB.out⟩
end Go.Proofs.Ytbhginnfkmajgaa
