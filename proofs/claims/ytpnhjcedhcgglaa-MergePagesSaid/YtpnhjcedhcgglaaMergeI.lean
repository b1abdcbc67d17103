/-
  awake of layer 17; the law MergeBehind: the walks.
-/
import Derived.Test.YtpnhjcedhcgglaaMergeH
namespace Go.Proofs.Ytpnhjcedhcgglaa
open Go.RowKit Mem
set_option linter.unusedVariables false
set_option maxRecDepth 100000

def wkA : M.D := ⟨[97], 1, []⟩
def wkB : M.D := ⟨[98], 4, []⟩
def wkC : M.D := ⟨[99], 2, []⟩
theorem wk_mall : (M.mall M.ahead [[wkA, wkB], [wkC]]).take 2 = [wkA, wkC] := by
  have e1 : M.ahead wkC wkA = false := by decide
  have e2 : M.ahead wkC wkB = true := by decide
  show (M.mrg M.ahead (M.mrg M.ahead [] [wkA, wkB]) [wkC]).take 2 = _
  rw [M.mrg_nil, M.mrg_a e1, M.mrg_b e2]
  rfl
def wkW (w : World) : World := ((w.alloc (.cells #[.string ⟨#[97]⟩, .int .i64 1, .string ⟨#[]⟩, .string ⟨#[98]⟩, .int .i64 4, .string ⟨#[]⟩] 31)).alloc (.cells #[.string ⟨#[99]⟩, .int .i64 2, .string ⟨#[]⟩] 31)).alloc (.cells #[.slice (some ⟨w.heap.size, 0, none⟩) 2 2, .slice (some ⟨w.heap.size + 1, 0, none⟩) 1 1] 24)
def wkR1 (w : World) : Dr := ⟨some ⟨w.heap.size, 0, none⟩, 2, 2, [wkA, wkB]⟩
def wkR2 (w : World) : Dr := ⟨some ⟨w.heap.size + 1, 0, none⟩, 1, 1, [wkC]⟩
theorem wk_lists (w : World) : RdLists (wkW w) (wkW w).heap.size (some ⟨w.heap.size + 2, 0, none⟩) 2 2 [wkR1 w, wkR2 w] ∧ Below w.heap.size w (wkW w) := by
  have hb : Below w.heap.size w (wkW w) := (((Below.refl _ w).alloc (Nat.le_refl _) _).alloc (by simp) _).alloc (by simp; omega) _
  have hs : (wkW w).heap.size = w.heap.size + 3 := by simp [wkW]
  obtain ⟨w1, hw1⟩ : ∃ w1, w1 = w.alloc (.cells #[.string ⟨#[97]⟩, .int .i64 1, .string ⟨#[]⟩, .string ⟨#[98]⟩, .int .i64 4, .string ⟨#[]⟩] 31) := ⟨_, rfl⟩
  obtain ⟨w2, hw2⟩ : ∃ w2, w2 = w1.alloc (.cells #[.string ⟨#[99]⟩, .int .i64 2, .string ⟨#[]⟩] 31) := ⟨_, rfl⟩
  have e3 : wkW w = w2.alloc (.cells #[.slice (some ⟨w.heap.size, 0, none⟩) 2 2, .slice (some ⟨w.heap.size + 1, 0, none⟩) 1 1] 24) := by rw [hw2, hw1]; rfl
  have s1 : w1.heap.size = w.heap.size + 1 := by rw [hw1]; simp
  have s2 : w2.heap.size = w.heap.size + 2 := by rw [hw2]; simp [s1]
  have h1 : (wkW w).heap[w.heap.size]? = some (.cells #[.string ⟨#[97]⟩, .int .i64 1, .string ⟨#[]⟩, .string ⟨#[98]⟩, .int .i64 4, .string ⟨#[]⟩] 31) := by
    rw [e3]; refine heapOld ?_; rw [hw2]; refine heapOld ?_; rw [hw1]; exact heap_alloc_new w _
  have h2 : (wkW w).heap[w.heap.size + 1]? = some (.cells #[.string ⟨#[99]⟩, .int .i64 2, .string ⟨#[]⟩] 31) := by
    rw [e3]; refine heapOld ?_; rw [hw2, ← s1]; exact heap_alloc_new w1 _
  have h3 : (wkW w).heap[w.heap.size + 2]? = some (.cells #[.slice (some ⟨w.heap.size, 0, none⟩) 2 2, .slice (some ⟨w.heap.size + 1, 0, none⟩) 1 1] 24) := by
    rw [e3, ← s2]; exact heap_alloc_new w2 _
  refine ⟨⟨rfl, Nat.le_refl _, by omega, fun r hr => ?_, fun _ => ⟨w.heap.size + 2, 0, rfl, by omega, fun i hi => ?_⟩⟩, hb⟩
  · simp only [List.mem_cons, List.not_mem_nil, or_false] at hr
    rcases hr with rfl | rfl
    · refine ⟨rfl, Nat.le_refl _, by show 2 ≤ _; omega, fun _ => ⟨w.heap.size, 0, rfl, by omega, fun i hi => ?_⟩⟩
      have hi' : i < 2 := hi
      rcases (by omega : i = 0 ∨ i = 1) with rfl | rfl
      · exact ⟨cellAt 0 h1, cellAt 1 h1, cellAt 2 h1⟩
      · exact ⟨cellAt 3 h1, cellAt 4 h1, cellAt 5 h1⟩
    · refine ⟨rfl, Nat.le_refl _, by show 1 ≤ _; omega, fun _ => ⟨w.heap.size + 1, 0, rfl, by omega, fun i hi => ?_⟩⟩
      have hi' : i < 1 := hi
      obtain rfl : i = 0 := by omega
      exact ⟨cellAt 0 h2, cellAt 1 h2, cellAt 2 h2⟩
  · have hi' : i < 2 := hi
    rcases (by omega : i = 0 ∨ i = 1) with rfl | rfl
    · exact cellAt 0 h3
    · exact cellAt 1 h3

set_option maxHeartbeats 2000000 in
theorem awake_any (w : World) : Calls Try.prog 7 #[] w (SaysB true w) := by
  obtain ⟨hl, hb⟩ := wk_lists w
  have HM := Lib.hid (merge_any (some ⟨w.heap.size + 2, 0, none⟩) 2 2 2 [wkR1 w, wkR2 w] (wkW w) hl (by show 3 ≤ 1048576; omega) (by omega))
  have HB := Lib.hid hb
  clear hl hb
  go_enter Try.func7, Try.ntmps7
  go_wp2_with fail
  refine HM.out.mono ?_
  rintro e w1 ⟨hb1, hx⟩
  rcases hx with ⟨⟨r, hr, hbad⟩, _⟩ | ⟨_, v, rfl, hrow⟩
  · exfalso
    simp only [List.mem_cons, List.not_mem_nil, or_false] at hr
    rcases hr with rfl | rfl
    · have : M.risesB [wkA, wkB] = false := hbad
      revert this; decide
    · have : M.risesB [wkC] = false := hbad
      revert this; decide
  have hrow2 : DRow w1 (wkW w).heap.size v [wkA, wkC] := by
    have e := wk_mall
    have : (M.mall M.ahead (lists [wkR1 w, wkR2 w])).take 2 = [wkA, wkC] := e
    rwa [this] at hrow
  obtain ⟨A, c, rfl, hrd⟩ := hrow2.open_
  obtain ⟨b, off, rfl, hbb, q⟩ := hrd.2.2.2 (by decide)
  have q0 : w1.cell? ⟨b, off, none⟩ = some (.string ⟨#[97]⟩) := (q 0 (by decide)).1
  have q1 : w1.cell? ⟨b, off + 3, none⟩ = some (.string ⟨#[99]⟩) := (q 1 (by decide)).1
  have HB1 := Lib.hid (HB.out.trans (hb1.mono HB.out.size))
  have hc2 : 2 ≤ c := hrd.2.1
  have hlen : ([wkA, wkC] : List M.D).length = 2 := rfl
  have htt : totD [wkR1 w, wkR2 w] = 3 := rfl
  rw [hlen, htt]
  clear hrow hrow2 hrd q hb1 HM hlen htt
  go_wp2
  go_ret
  exact ⟨rfl, HB1.out⟩
end Go.Proofs.Ytpnhjcedhcgglaa
