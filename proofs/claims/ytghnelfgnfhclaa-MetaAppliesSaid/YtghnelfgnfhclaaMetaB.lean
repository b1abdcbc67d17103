/-
  rightRow and Form, and the document's In and Form, by contracts.
-/
import Derived.Test.YtghnelfgnfhclaaMetaA
namespace Go.Proofs.Ytghnelfgnfhclaa
open Go.RowKit Mem
set_option linter.unusedVariables false
set_option maxRecDepth 100000

/-- the row as a struct in a block of its own -/
theorem rises_cons_t {top last x : Int} {l : List Int} (h : last < x) (h2 : x < top) : M.rises top last (x :: l) = M.rises top x l := by
  rw [M.rises]; simp [h, h2]
theorem rises_cons_f {top last x : Int} {l : List Int} (h : ¬ (last < x ∧ x < top)) : M.rises top last (x :: l) = false := by
  rw [M.rises, decide_eq_false h]; rfl

def SaysB (b : Bool) (w : World) (e : Ending) (w' : World) : Prop := e = .returned (.bool b) ∧ Below w.heap.size w w'

set_option maxHeartbeats 2000000 in
theorem rightRow_any (x : X) (nodes : Int) (hn : I64 nodes) (w : World) (h : RdX w w.heap.size x) : Calls Try.prog 26 #[x.val, .int .i64 nodes] w (SaysB (M.rightRow x.r nodes) w) := by
  obtain ⟨⟨rev, term, prim, sync⟩, A, n, c⟩ := x
  obtain ⟨hr, ht, hp, hs, hz, hl⟩ := h
  simp only at hr ht hp hs hz hl
  unfold X.val
  simp only
  have hln := hs.1
  rw [ints_len] at hln
  have HB1 := Lib.hid (show Below w.heap.size w (w.alloc (.cells #[.int .u64 (rev : Int), .int .u64 (term : Int), .int .i64 prim, .slice A n c] 42)) from (Below.refl _ w).alloc (Nat.le_refl _) _)
  have HS := Lib.hid hs
  have HLN := Lib.hid hln
  have HZ := Lib.hid hz
  have HRR : Hid (M.rightRow ⟨rev, term, prim, sync⟩ nodes = (M.rises nodes (-1) (sync.drop 0) && decide (1 ≤ term) && sync.contains prim)) := rfl
  generalize M.rightRow ⟨rev, term, prim, sync⟩ nodes = res at *
  clear hs hz hln
  go_enter Try.func26, Try.ntmps26
  go_wp2
  go_loopw [5, 11] (fun last p wr => ∃ (i : Nat) (z : Int), p = .int .i64 (i : Int) ∧ last = .int .i64 z ∧ I64 z ∧ i ≤ n ∧ Hid (res = (M.rises nodes z (sync.drop i) && decide (1 ≤ term) && sync.contains prim)) ∧ wr = w.alloc (.cells #[.int .u64 (rev : Int), .int .u64 (term : Int), .int .i64 prim, .slice A n c] 42)) (fun _ p _ => n - (intOf p).toNat)
  case atStart => exact ⟨0, -1, rfl, rfl, by unfold I64; omega, Nat.zero_le _, HRR, rfl⟩
  case round =>
    obtain ⟨i, z, rfl, rfl, hiz, hi, HR, rfl⟩ := hrel
    by_cases hlt : i < n
    · obtain ⟨b, off, rfl, hb, hc⟩ := rdi_cells HS.out (by omega)
      have hil : i < sync.length := by have := HLN.out; omega
      have hce := (HB1.out.cell (p := ⟨b, off + i, none⟩) hb).trans (hc i hil)
      have hy := HZ.out sync[i] (List.getElem_mem hil)
      rw [List.getD_eq_getElem?_getD, List.getElem?_eq_getElem hil, Option.getD_some] at hce
      rw [List.drop_eq_getElem_cons hil] at HR
      generalize sync[i] = y at *
      clear hc
      unfold I64 at hy
      by_cases h1 : z < y
      · by_cases h2 : y < nodes
        · rw [rises_cons_t h1 h2] at HR
          go_wp2
          exact ⟨⟨i + 1, y, by go_num, rfl, hy, by omega, HR, trivial⟩, by simp [intOf]; omega⟩
        · rw [rises_cons_f (fun h => h2 h.2), Bool.false_and, Bool.false_and] at HR
          have HQ : Hid (res = false) := HR
          go_wp2
          go_ret
          exact ⟨by rw [HQ.out]; rfl, HB1.out⟩
      · rw [rises_cons_f (fun h => h1 h.1), Bool.false_and, Bool.false_and] at HR
        have HQ : Hid (res = false) := HR
        go_wp2
        go_ret
        exact ⟨by rw [HQ.out]; rfl, HB1.out⟩
    · rw [List.drop_eq_nil_of_le (by have := HLN.out; omega)] at HR
      have HQ : Hid (res = (decide (1 ≤ term) && sync.contains prim)) := HR.out.trans (by simp [M.rises])
      have HC := Lib.hid (fun W (hW : Below w.heap.size w W) => contains_any w.heap.size n c A sync prim W (HS.out.below hW))
      generalize sync.contains prim = q at *
      by_cases ht1 : 1 ≤ term
      · rw [decide_eq_true ht1, Bool.true_and] at HQ
        go_wp2_with fail
        refine (HC.out _ HB1.out).mono ?_
        rintro e w1 ⟨rfl, rfl⟩
        go_wp2
        go_ret
        exact ⟨by rw [HQ.out]; rfl, HB1.out⟩
      · rw [decide_eq_false ht1, Bool.false_and] at HQ
        go_wp2
        go_ret
        exact ⟨by rw [HQ.out]; rfl, HB1.out⟩
end Go.Proofs.Ytghnelfgnfhclaa
