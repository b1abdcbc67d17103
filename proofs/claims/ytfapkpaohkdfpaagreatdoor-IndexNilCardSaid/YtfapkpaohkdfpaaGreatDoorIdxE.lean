/-
  The law's awake; the law IndexNil, by the contracts.
-/
import Derived.Test.YtfapkpaohkdfpaaGreatDoorIdxD
namespace Go.Proofs.YtfapkpaohkdfpaaGreatDoor
open Go.RowKit Mem Go.ChangeShapes
set_option linter.unusedVariables false
set_option maxRecDepth 100000

def exIdx : M.D := ⟨[97], 0, [114, 101, 100]⟩

set_option maxHeartbeats 4000000 in
theorem awake10_any (w : World) (hT : Tabs w) : Calls Tryz.prog 10 #[] w (SaysB true w) := by
  have HT := Lib.hid hT
  have HNW := Lib.hid (idxNew_any 2 2 (by omega) (by omega) w)
  obtain ⟨w1, hw1⟩ : ∃ w1, w1 = (w.alloc (.map #[] 0)).alloc (.cells #[.int .i64 2, .int .i64 2, .map (some w.heap.size), .slice none 0 0, .slice none 0 0] 66) := ⟨_, rfl⟩
  have hbm := (Below.refl w.heap.size w).alloc (Nat.le_refl _) (.map #[] 0)
  have HB1 := Lib.hid (show Below w.heap.size w w1 by rw [hw1]; exact hbm.alloc hbm.size _)
  have HX1 := Lib.hid (show w1.heap[w.heap.size + 1]? = some (.cells #[.int .i64 2, .int .i64 2, .map (some w.heap.size), .slice none 0 0, .slice none 0 0] 66 (0, 0)) by
    rw [hw1]
    have := heap_alloc_new (w.alloc (.map #[] 0)) (.cells #[.int .i64 2, .int .i64 2, .map (some w.heap.size), .slice none 0 0, .slice none 0 0] 66)
    simpa using this)
  have HM1 := Lib.hid (show w1.heap[w.heap.size]? = some (.map #[] 0) by
    rw [hw1]
    exact (Below.heap_alloc (w.alloc (.map #[] 0)) _ w.heap.size (by simp)).trans (heap_alloc_new w _))
  rw [← hw1] at HNW
  have hadd := addOne_any w (w.heap.size + 1) w.heap.size 2 2 (by omega) exIdx w1 HX1.out HM1.out (by decide) (by decide) (by omega) (Nat.le_refl _) HB1.out
  unfold dval exIdx at hadd
  simp only at hadd
  have HAD := Lib.hid hadd
  clear hT hw1 hbm hadd
  go_enter Tryz.func10, Tryz.ntmps10
  go_wp2_with fail
  refine HNW.out.mono ?_
  rintro e w1' ⟨rfl, hx⟩
  subst hx
  go_wp2_with fail
  refine HAD.out.mono ?_
  rintro e w2 ⟨rfl, gl, cap, D, hx2, hr2, hm2, hsz2, hb2⟩
  have HB2 := Lib.hid hb2
  have hfi := ifindOne_any (w.heap.size + 1) w.heap.size 1 2 2 D gl cap _ w2 hx2 hm2 hsz2 hr2 (HT.out.below hb2) (by decide)
  have HFI := Lib.hid hfi
  clear hx2 hr2 hm2 hsz2 hb2 hfi HAD HNW
  go_wp2_with fail
  refine HFI.out.mono ?_
  rintro e w3 ⟨x, rfl, hO3⟩
  have c0 : w3.cell? ⟨x.1, 0, none⟩ = some (.string ⟨#[97]⟩) := hO3.cells.1
  obtain ⟨k1, k2⟩ := hO3.cap
  have HB3 := Lib.hid (HB2.out.trans (hO3.2.mono HB2.out.size))
  rw [show rowV x = .slice (some ⟨x.1, 0, none⟩) 1 x.2 from rfl]
  clear hO3
  go_wp2
  go_ret
  exact ⟨rfl, HB3.out⟩

set_option maxHeartbeats 4000000 in
theorem indexNil_any (d : M.D) (q : Q) (ii : Int) (w : World) (hT : Tabs w) (hq : Q.Ok w w.heap.size q) :
    Calls Tryz.prog 6 #[dval d, q.val, .int .i64 ii] w (SaysB true w) := by
  have HT := Lib.hid hT
  have HGR := Lib.hid (fun (W : World) (hb : Below w.heap.size w W) => great_any q W ((hq.on hb).more hb.size))
  have HAW := Lib.hid (fun (W : World) (hb : Below w.heap.size w W) => awake10_any W (HT.out.below hb))
  have HAD := Lib.hid (fun (W : World) => idxAdd_nil d W)
  have HFN := Lib.hid (fun (W : World) => idxFind_nil q ii W)
  have HBY := Lib.hid (fun (W : World) => idxBytes_nil ii W)
  have HGE := Lib.hid (fun (W : World) => idxGet_nil ⟨d.id.toArray⟩ W)
  have HLN := Lib.hid (fun (W : World) => idxLen_nil W)
  have HSG := Lib.hid (fun (W : World) => idxSegs_nil W)
  clear hT hq
  obtain ⟨did, dtm, dtx⟩ := d
  obtain ⟨k, t, z, A, n, c, ks⟩ := q
  unfold Q.val at HGR HFN ⊢
  unfold dval at HAD ⊢
  simp only at HGR HFN HAD HGE ⊢
  obtain ⟨K, hK⟩ : ∃ K : Int, (k : Int) = K := ⟨_, rfl⟩
  rw [hK] at HGR HFN ⊢
  clear hK
  obtain ⟨w0, hw0⟩ : ∃ w0, w0 = w.alloc (.cells #[.string ⟨did.toArray⟩, .int .i64 dtm, .string ⟨dtx.toArray⟩] 40) := ⟨_, rfl⟩
  have hs0 : w0.heap.size = w.heap.size + 1 := by rw [hw0]; simp
  have hb0 : Below w.heap.size w w0 := by rw [hw0]; exact (Below.refl _ _).alloc (Nat.le_refl _) _
  have hd0 : DocIn w0 w.heap.size ⟨did, dtm, dtx⟩ := by rw [hw0]; exact DocIn.new w ⟨did, dtm, dtx⟩
  obtain ⟨w1, hw1⟩ : ∃ w1, w1 = w0.alloc (.cells #[.int .u8 K, .string ⟨t.toArray⟩, .int .i64 z, .slice A n c] 25) := ⟨_, rfl⟩
  have hb1 : Below w0.heap.size w0 w1 := by rw [hw1]; exact (Below.refl _ _).alloc (Nat.le_refl _) _
  have HBX := Lib.hid (show BoxIn w1 (w.heap.size + 1) K t z A n c by rw [hw1, ← hs0]; exact BoxIn.new w0 K t z A n c)
  have HDI := Lib.hid (hd0.on hb1)
  have HB1 := Lib.hid (hb0.trans (hb1.mono hb0.size))
  have HW1 := Lib.hid (show (w.alloc (.cells #[.string ⟨did.toArray⟩, .int .i64 dtm, .string ⟨dtx.toArray⟩] 40)).alloc (.cells #[.int .u8 K, .string ⟨t.toArray⟩, .int .i64 z, .slice A n c] 25) = w1 by rw [hw1, hw0])
  clear hw0 hs0 hb0 hd0 hw1 hb1
  go_enter Tryz.func6, Tryz.ntmps6
  go_wp2_with fail
  rw [HW1.out]
  refine (HGR.out _ HB1.out).mono ?_
  rintro e w2 ⟨gr, rfl, hb2⟩
  have HBX2 := Lib.hid (HBX.out.on hb2)
  have HDI2 := Lib.hid (HDI.out.on hb2)
  have HB2 := Lib.hid (HB1.out.trans (hb2.mono HB1.out.size))
  clear hb2 HBX HDI HB1 HGR HW1
  cases gr with
  | true =>
    go_wp2_with fail
    refine (HAW.out _ HB2.out).mono ?_
    rintro e w3 ⟨rfl, hb3⟩
    have HB3 := Lib.hid (HB2.out.trans (hb3.mono HB2.out.size))
    clear hb3
    go_wp2
    go_ret
    exact ⟨rfl, HB3.out⟩
  | false =>
    obtain ⟨y0, y1, y2⟩ := HDI2.out.cells
    simp only at y0 y1 y2
    go_wp2_with fail
    refine (HAD.out _).mono ?_
    rintro e w3 ⟨rfl, hb3⟩
    have HBX3 := Lib.hid (HBX2.out.on hb3)
    have HDI3 := Lib.hid (HDI2.out.on hb3)
    have HB3 := Lib.hid (HB2.out.trans (hb3.mono HB2.out.size))
    clear hb3 y0 y1 y2
    go_wp2_with fail
    refine (HBY.out _).mono ?_
    rintro e w3' ⟨rfl, hx⟩
    subst hx
    rename World => w3
    obtain ⟨y0, y1, y2⟩ := HDI3.out.cells
    simp only at y0 y1 y2
    go_wp2_with fail
    refine (HGE.out _).mono ?_
    rintro e w4 ⟨rfl, hx⟩
    subst hx
    obtain ⟨x0, x1, x2, x3⟩ := HBX3.out.cells
    go_wp2_with fail
    refine (HFN.out _).mono ?_
    rintro e w5 ⟨rfl, hb5⟩
    have HB5 := Lib.hid (HB3.out.trans (hb5.mono HB3.out.size))
    clear hb5 y0 y1 y2 x0 x1 x2 x3
    go_wp2_with fail
    refine (HAW.out _ HB5.out).mono ?_
    rintro e w6 ⟨rfl, hb6⟩
    have HB6 := Lib.hid (HB5.out.trans (hb6.mono HB5.out.size))
    clear hb6
    go_wp2_with fail
    refine (HLN.out _).mono ?_
    rintro e w7 ⟨rfl, hx⟩
    subst hx
    go_wp2_with fail
    refine (HSG.out _).mono ?_
    rintro e w8 ⟨rfl, hx⟩
    subst hx
    go_wp2
    go_ret
    exact ⟨rfl, HB6.out⟩
end Go.Proofs.YtfapkpaohkdfpaaGreatDoor
