/-
  CopyNil, by the contracts.
-/
import Derived.Test.YtjdkpcibdjhdoaaDoorCopyJ
import Derived.Test.YtjdkpcibdjhdoaaDoorCopyArg
namespace Go.Proofs.YtjdkpcibdjhdoaaDoor
open Go.RowKit Mem FM Go.ChangeShapes Go.Deep
set_option linter.unusedVariables false
set_option maxRecDepth 100000

set_option maxHeartbeats 2000000 in
theorem copyNil_any (t : Int) (o : M.O) (w : World) (ht0 : (Lit.int .u64 t).wf = true) : Calls Tryd.prog 5 #[.int .u64 t, oval o] w (Yes w) := by
  have ht : 0 ≤ t := by have := bounds_u64 ht0; omega
  obtain ⟨t, rfl⟩ := Int.eq_ofNat_of_zero_le ht
  clear ht ht0
  obtain ⟨wa, hwa⟩ : ∃ wa, wa = w.alloc (.cells #[.int .u64 (o.term : Int), .string ⟨o.doc.id.toArray⟩, .int .i64 o.doc.time, .string ⟨o.doc.text.toArray⟩] 26) := ⟨_, rfl⟩
  have HBA := Lib.hid (show Below w.heap.size w wa by rw [hwa]; exact (Below.refl _ _).alloc (Nat.le_refl _) _)
  have HXA := Lib.hid (show wa.heap[w.heap.size]? = some (.cells #[.int .u64 (o.term : Int), .string ⟨o.doc.id.toArray⟩, .int .i64 o.doc.time, .string ⟨o.doc.text.toArray⟩] 26 (0, 0)) by rw [hwa]; exact heap_alloc_new w _)
  have HAP := Lib.hid (fun W => append_nil o W)
  have HAW := Lib.hid (awake16_any wa)
  unfold oval at HAP ⊢
  obtain ⟨ot, did, dtm, dtx⟩ := o
  simp only at hwa HXA HAP ⊢
  go_enter Tryd.func5, Tryd.ntmps5
  go_wp2_with fail
  rw [← hwa]
  refine HAW.out.mono ?_
  rintro e w1 ⟨rfl, hb1⟩
  have hb01 := HBA.out.trans (hb1.mono HBA.out.size)
  have hx1 := (hb1.block _ (heapLt HXA.out)).trans HXA.out
  have y0 : w1.cell? ⟨w.heap.size, 0, none⟩ = some (.int .u64 (ot : Int)) := cellAt (w := w1) 0 hx1
  have y1 : w1.cell? ⟨w.heap.size, 1, none⟩ = some (.string ⟨did.toArray⟩) := cellAt (w := w1) 1 hx1
  have y2 : w1.cell? ⟨w.heap.size, 2, none⟩ = some (.int .i64 dtm) := cellAt (w := w1) 2 hx1
  have y3 : w1.cell? ⟨w.heap.size, 3, none⟩ = some (.string ⟨dtx.toArray⟩) := cellAt (w := w1) 3 hx1
  have HB1 := Lib.hid hb01
  clear hb1 hb01 hx1 hwa HAW HBA HXA
  go_wp2_with fail
  refine (hear_nil t _).mono ?_
  rintro e w2 ⟨rfl, rfl⟩
  go_wp2_with fail
  refine (serve_nil t _).mono ?_
  rintro e w3 ⟨rfl, rfl⟩
  go_wp2_with fail
  refine (HAP.out _).mono ?_
  rintro e w4 ⟨rfl, hb4⟩
  have HB4 := Lib.hid (HB1.out.trans (hb4.mono HB1.out.size))
  clear y0 y1 y2 y3 hb4
  go_wp2_with fail
  refine (adopt_nil t _).mono ?_
  rintro e w5 ⟨rfl, rfl⟩
  go_wp2_with fail
  refine (len_nil _).mono ?_
  rintro e w6 ⟨rfl, rfl⟩
  go_wp2_with fail
  refine (ops_nil _).mono ?_
  rintro e w7 ⟨rfl, rfl⟩
  go_wp2_with fail
  refine (terms_nil _).mono ?_
  rintro e w8 ⟨rfl, hb8⟩
  have HB8 := Lib.hid (HB4.out.trans (hb8.mono HB4.out.size))
  clear hb8
  go_wp2
  go_ret
  exact ⟨rfl, HB8.out⟩
end Go.Proofs.YtjdkpcibdjhdoaaDoor
