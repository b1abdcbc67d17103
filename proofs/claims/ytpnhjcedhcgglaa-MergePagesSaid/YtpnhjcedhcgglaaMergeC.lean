/-
  The law's rises, the document's Same on equal lists, the document's Put: by contracts.
-/
import Derived.Test.YtpnhjcedhcgglaaMergeB
namespace Go.Proofs.Ytpnhjcedhcgglaa
open Go.RowKit Mem
set_option linter.unusedVariables false
set_option maxRecDepth 100000

set_option maxHeartbeats 2000000 in
theorem rises_any (A : Option Addr) (n c : Nat) (ds : List M.D) (w : World) (h : RdDocs w w.heap.size A n c ds) :
    Calls Try.prog 9 #[.slice A n c] w (SaysB (M.risesB ds) w) := by
  have H := Lib.hid h; have HN := Lib.hid h.1
  have hc := h.2.1; have hcm := h.2.2.1
  clear h
  go_enter Try.func9, Try.ntmps9
  go_wp2
  go_loopw [3] (fun p wr => ∃ j : Nat, p = .int .i64 ((j : Int) + 1) ∧ j ≤ n ∧ Hid (∀ i (hi : i + 1 < ds.length), i < j → M.ahead ds[i + 1] ds[i] = false) ∧ Hid (Below w.heap.size w wr)) (fun p _ => n + 1 - (intOf p).toNat)
  case atStart => exact ⟨0, by go_num, Nat.zero_le _, Lib.hid (fun i hi hk => by omega), Lib.hid (Below.refl _ _)⟩
  case round =>
    obtain ⟨j, rfl, hk, HI, HB⟩ := hrel
    rename World => wr
    by_cases hlt : j + 1 < n
    · have hj1 : j + 1 < ds.length := by have := HN.out; omega
      have hw1 : IntKind.i64.wrap (j : Int) = (j : Int) := by rw [IntKind.wrap_i64]; omega
      have hw2 : IntKind.i64.wrap ((j : Int) + 1 + 1) = (j : Int) + 1 + 1 := by rw [IntKind.wrap_i64]; omega
      have hjm : (j : Int) < (n : Int) := by omega
      have hjm1 : (j : Int) + 1 < (n : Int) := by omega
      have hj0 : (0 : Int) ≤ (j : Int) + 1 := by omega
      obtain ⟨db, off, rfl, hdb, hcells⟩ := H.out.2.2.2 (by omega)
      obtain ⟨q0, q1, q2⟩ := hcells (j + 1) hj1
      obtain ⟨r0, r1, r2⟩ := hcells j (by omega)
      have HV := Lib.hid (show TwoS w db (off + (j + 1) * 3) db (off + j * 3) ds[j + 1] ds[j] wr.drew from TwoS.drew ⟨cell_on HB.out q0, cell_on HB.out q1, cell_on HB.out q2, cell_on HB.out r0, cell_on HB.out r1, cell_on HB.out r2, HB.out⟩)
      have HST := Lib.hid (show M.ahead ds[j + 1] ds[j] = true → M.risesB ds = false from M.risesB_no j hj1)
      have HNX := Lib.hid (show M.ahead ds[j + 1] ds[j] = false → ∀ i (hi : i + 1 < ds.length), i < j + 1 → M.ahead ds[i + 1] ds[i] = false from fun ha i hi hji => by
        rcases Nat.lt_or_ge i j with h | h
        · exact HI.out i hi h
        · obtain rfl : i = j := by omega
          exact ha)
      clear hcells q0 q1 q2 r0 r1 r2 HI
      generalize ds[j + 1] = x at *
      generalize ds[j] = y at *
      have HOR := Lib.hid (fun W => ahead_any x y W)
      obtain ⟨ab, hab⟩ : ∃ ab, M.ahead x y = ab := ⟨_, rfl⟩
      rw [hab] at HOR HST HNX
      clear hab
      obtain ⟨i1, t1, x1⟩ := x
      obtain ⟨i2, t2, x2⟩ := y
      unfold dval at HOR
      simp only at HOR
      cases ab
      · have HNX' := Lib.hid (HNX.out rfl)
        clear HST HNX
        go_wp2_with fail
        go_region_held3 (fun W => W.cell? ⟨db, off + (j + 1) * 3, none⟩ = some (.string ⟨i1.toArray⟩) ∧ W.cell? ⟨db, off + (j + 1) * 3 + 1, none⟩ = some (.int .i64 t1) ∧ W.cell? ⟨db, off + (j + 1) * 3 + 2, none⟩ = some (.string ⟨x1.toArray⟩) ∧
            W.cell? ⟨db, off + j * 3, none⟩ = some (.string ⟨i2.toArray⟩) ∧ W.cell? ⟨db, off + j * 3 + 1, none⟩ = some (.int .i64 t2) ∧ W.cell? ⟨db, off + j * 3 + 2, none⟩ = some (.string ⟨x2.toArray⟩) ∧ Below w.heap.size w W)
          (first | exact hHeld | exact HV.out | exact hV2 | fail)
          (first
            | (go_at_call 13; refine (HOR.out _).mono ?_; rintro e w2 ⟨rfl, hb2⟩; have hV2 := HV.out.on hb2)
            | fail)
        all_goals
          have HB2 := Lib.hid hV2.bel
          clear hb2 hV2
          go_wp2
          go_roundw
          case rel => exact ⟨j + 1, by go_num, by omega, HNX', HB2⟩
          case measure => simp [intOf]; omega
      · have HF := Lib.hid (HST.out rfl)
        clear HST HNX
        go_wp2_with fail
        go_region_held3 (fun W => W.cell? ⟨db, off + (j + 1) * 3, none⟩ = some (.string ⟨i1.toArray⟩) ∧ W.cell? ⟨db, off + (j + 1) * 3 + 1, none⟩ = some (.int .i64 t1) ∧ W.cell? ⟨db, off + (j + 1) * 3 + 2, none⟩ = some (.string ⟨x1.toArray⟩) ∧
            W.cell? ⟨db, off + j * 3, none⟩ = some (.string ⟨i2.toArray⟩) ∧ W.cell? ⟨db, off + j * 3 + 1, none⟩ = some (.int .i64 t2) ∧ W.cell? ⟨db, off + j * 3 + 2, none⟩ = some (.string ⟨x2.toArray⟩) ∧ Below w.heap.size w W)
          (first | exact hHeld | exact HV.out | exact hV2 | fail)
          (first
            | (go_at_call 13; refine (HOR.out _).mono ?_; rintro e w2 ⟨rfl, hb2⟩; have hV2 := HV.out.on hb2)
            | fail)
        all_goals
          have HB2 := Lib.hid hV2.bel
          clear hb2 hV2
          go_wp2
          go_ret
          rw [HF.out]
          exact ⟨rfl, HB2.out⟩
    · have HF := Lib.hid (show M.risesB ds = true from (M.risesB_iff ds).2 (fun i hi => HI.out i hi (by have := HN.out; omega)))
      have hq : ¬ (j : Int) + 1 < (n : Int) := by omega
      go_wp2
      go_ret
      rw [HF.out]
      exact ⟨rfl, HB.out⟩

set_option maxHeartbeats 2000000 in
theorem same7_any (A1 A2 : Option Addr) (n c1 n2 c2 : Nat) (ds : List M.D) (w : World) (h1 : RdDocs w w.heap.size A1 n c1 ds) (h2 : RdDocs w w.heap.size A2 n2 c2 ds) :
    Calls Try.prog 11 #[.slice A1 n c1, .slice A2 n2 c2] w (SaysB true w) := by
  obtain rfl : n = n2 := h1.1.trans h2.1.symm
  have HN := Lib.hid h1.1
  have hc1 := h1.2.1; have hc2 := h1.2.2.1; have hc3 := h2.2.1; have hc4 := h2.2.2.1
  have H1 := Lib.hid h1; have H2 := Lib.hid h2
  clear h1 h2
  have hq : ((n : Int) != (n : Int)) = false := by simp
  have HB0 := Lib.hid (Below.refl w.heap.size w)
  go_enter Try.func11, Try.ntmps11
  go_wp2
  go_loopw [5] (fun i wr => ∃ k : Nat, i = .int .i64 k ∧ k ≤ n ∧ Hid (Below w.heap.size w wr)) (fun i _ => n - (intOf i).toNat)
  case atStart => exact ⟨0, rfl, Nat.zero_le _, HB0⟩
  case round =>
    obtain ⟨k, rfl, hk, HB⟩ := hrel
    rename World => wr
    by_cases hlt : k < n
    · have hkx : k < ds.length := by have := HN.out; omega
      obtain ⟨b1, o1, rfl, hb1, d1⟩ := H1.out.2.2.2 (by omega)
      obtain ⟨b2, o2, rfl, hb2, d2⟩ := H2.out.2.2.2 (by omega)
      obtain ⟨q0, q1, q2⟩ := d1 k hkx
      obtain ⟨r0, r1, r2⟩ := d2 k hkx
      have HV := Lib.hid (show TwoS w b1 (o1 + k * 3) b2 (o2 + k * 3) ds[k] ds[k] wr.drew from TwoS.drew ⟨cell_on HB.out q0, cell_on HB.out q1, cell_on HB.out q2, cell_on HB.out r0, cell_on HB.out r1, cell_on HB.out r2, HB.out⟩)
      clear d1 d2 q0 q1 q2 r0 r1 r2
      generalize ds[k] = d at *
      obtain ⟨i1, t1, x1⟩ := d
      go_wp2_with fail
      go_region_held3 (fun W => W.cell? ⟨b1, o1 + k * 3, none⟩ = some (.string ⟨i1.toArray⟩) ∧ W.cell? ⟨b1, o1 + k * 3 + 1, none⟩ = some (.int .i64 t1) ∧ W.cell? ⟨b1, o1 + k * 3 + 2, none⟩ = some (.string ⟨x1.toArray⟩) ∧
          W.cell? ⟨b2, o2 + k * 3, none⟩ = some (.string ⟨i1.toArray⟩) ∧ W.cell? ⟨b2, o2 + k * 3 + 1, none⟩ = some (.int .i64 t1) ∧ W.cell? ⟨b2, o2 + k * 3 + 2, none⟩ = some (.string ⟨x1.toArray⟩) ∧ Below w.heap.size w W)
        (first | exact hHeld | exact HV.out | fail) (fail)
      go_wp2
      go_roundw
      case rel => exact ⟨k + 1, by go_num, by omega, Lib.hid (bel_drewN HB.out 1)⟩
      case measure => simp [intOf]; omega
    · obtain rfl : k = n := by omega
      go_wp2
      go_ret
      exact ⟨rfl, HB.out⟩
end Go.Proofs.Ytpnhjcedhcgglaa
