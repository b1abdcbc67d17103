/-
  slices.IsSortedFunc at entries, the law's rises, the document's Same on equal lists: by contracts.
-/
import Derived.Test.YtpnhjcedhcgglaaMergeA
import Derived.Laws.StructEq
namespace Go.Proofs.Ytpnhjcedhcgglaa.M
set_option linter.unusedVariables false
/-- no entry comes ahead of the one before it -/
def risesB : List D → Bool
  | a :: b :: r => !ahead b a && risesB (b :: r)
  | _ => true
theorem risesB_iff : ∀ (l : List D), risesB l = true ↔ ∀ i (hi : i + 1 < l.length), ahead l[i + 1] l[i] = false
  | [] => by simp [risesB]
  | [a] => by simp [risesB]
  | a :: b :: r => by
    have ih := risesB_iff (b :: r)
    simp only [risesB, Bool.and_eq_true, Bool.not_eq_true', ih]
    refine ⟨fun h i hi => ?_, fun h => ⟨h 0 (by simp), fun i hi => h (i + 1) (by simpa using hi)⟩⟩
    cases i with
    | zero => exact h.1
    | succ i => exact h.2 i (by simpa using hi)
theorem risesB_no {l : List D} (i : Nat) (hi : i + 1 < l.length) (h : ahead l[i + 1] l[i] = true) : risesB l = false := by
  cases e : risesB l with
  | false => rfl
  | true => have := (risesB_iff l).1 e i hi; rw [h] at this; cases this
theorem risesB_ord {l : List D} (h : risesB l = true) : MOrd ahead l := ord_of ahead_pre ((risesB_iff l).1 h)
theorem risesB_of {l : List D} (h : MOrd ahead l) : risesB l = true := (risesB_iff l).2 (fun i hi => ord_at h (by omega) hi)
end Go.Proofs.Ytpnhjcedhcgglaa.M
namespace Go.Proofs.Ytpnhjcedhcgglaa
open Go.RowKit Mem
set_option linter.unusedVariables false
set_option maxRecDepth 100000

theorem cell_on {W W' : World} {p : Addr} {v : Value} (hb : Below W.heap.size W W') (h : W.cell? p = some v) : W'.cell? p = some v := (hb.cell (World.block_lt_of_cell? W _ h)).trans h
theorem bel_drewN {w W : World} {B : Nat} (h : Below B w W) (k : Nat) : Below B w (W.drewN k) := ⟨h.os, h.tape, h.output, h.size, h.block⟩
/-- two entries in memory that has only grown -/
def TwoS (w : World) (b o b2 o2 : Nat) (d d2 : M.D) (W : World) : Prop :=
  W.cell? ⟨b, o, none⟩ = some (.string ⟨d.id.toArray⟩) ∧ W.cell? ⟨b, o + 1, none⟩ = some (.int .i64 d.time) ∧ W.cell? ⟨b, o + 2, none⟩ = some (.string ⟨d.text.toArray⟩) ∧
  W.cell? ⟨b2, o2, none⟩ = some (.string ⟨d2.id.toArray⟩) ∧ W.cell? ⟨b2, o2 + 1, none⟩ = some (.int .i64 d2.time) ∧ W.cell? ⟨b2, o2 + 2, none⟩ = some (.string ⟨d2.text.toArray⟩) ∧ Below w.heap.size w W
section
variable {w W W' : World} {b o b2 o2 : Nat} {d d2 : M.D}
theorem TwoS.on (h : TwoS w b o b2 o2 d d2 W) (hb : Below W.heap.size W W') : TwoS w b o b2 o2 d d2 W' :=
  ⟨cell_on hb h.1, cell_on hb h.2.1, cell_on hb h.2.2.1, cell_on hb h.2.2.2.1, cell_on hb h.2.2.2.2.1, cell_on hb h.2.2.2.2.2.1, h.2.2.2.2.2.2.trans (hb.mono h.2.2.2.2.2.2.size)⟩
theorem TwoS.drew (h : TwoS w b o b2 o2 d d2 W) : TwoS w b o b2 o2 d d2 W.drew := ⟨h.1, h.2.1, h.2.2.1, h.2.2.2.1, h.2.2.2.2.1, h.2.2.2.2.2.1, bel_drewN h.2.2.2.2.2.2 1⟩
theorem TwoS.bel (h : TwoS w b o b2 o2 d d2 W) : Below w.heap.size w W := h.2.2.2.2.2.2
end

set_option maxHeartbeats 2000000 in
theorem sorted_any (A : Option Addr) (n c : Nat) (ds : List M.D) (w : World) (h : RdDocs w w.heap.size A n c ds) :
    Calls Try.prog 14 #[.slice A n c, .func (.func 15) #[] #[]] w (SaysB (M.risesB ds) w) := by
  have H := Lib.hid h; have HN := Lib.hid h.1
  have hc := h.2.1; have hcm := h.2.2.1
  clear h
  rcases Nat.eq_zero_or_pos n with h0 | h0
  · subst h0
    have HF := Lib.hid (show M.risesB ds = true by have := HN.out; rw [List.eq_nil_of_length_eq_zero this.symm]; rfl)
    go_enter Try.func14, Try.ntmps14
    go_wp2
    go_loopw [5] (fun p wr => p = .int .i64 (-1) ∧ wr = w) (fun _ _ => 0)
    case atStart => exact ⟨rfl, rfl⟩
    case round =>
      obtain ⟨rfl, rfl⟩ := hrel
      go_wp2
      go_ret
      rw [HF.out]
      exact ⟨rfl, Below.refl _ _⟩
  obtain ⟨m, rfl⟩ : ∃ m, n = m + 1 := ⟨n - 1, by omega⟩
  have hw0 : IntKind.i64.wrap (m : Int) = (m : Int) := by rw [IntKind.wrap_i64]; omega
  go_enter Try.func14, Try.ntmps14
  go_wp2
  go_loopw [5] (fun p wr => ∃ k : Nat, p = .int .i64 (k : Int) ∧ k ≤ m ∧ Hid (∀ i (hi : i + 1 < ds.length), k < i + 1 → M.ahead ds[i + 1] ds[i] = false) ∧ Hid (Below w.heap.size w wr)) (fun p _ => (intOf p).toNat)
  case atStart => exact ⟨m, by go_num, Nat.le_refl _, Lib.hid (fun i hi hk => by have := HN.out; omega), Lib.hid (Below.refl _ _)⟩
  case round =>
    obtain ⟨k, rfl, hk, HI, HB⟩ := hrel
    rename World => wr
    rcases Nat.eq_zero_or_pos k with hk0 | hk0
    · subst hk0
      have HF := Lib.hid (show M.risesB ds = true from (M.risesB_iff ds).2 (fun i hi => HI.out i hi (by omega)))
      go_wp2
      go_ret
      rw [HF.out]
      exact ⟨rfl, HB.out⟩
    · obtain ⟨j, rfl⟩ : ∃ j, k = j + 1 := ⟨k - 1, by omega⟩
      have hj1 : j + 1 < ds.length := by have := HN.out; omega
      have hw1 : IntKind.i64.wrap (j : Int) = (j : Int) := by rw [IntKind.wrap_i64]; omega
      have hjm : (j : Int) < (m : Int) + 1 := by omega
      have hjm2 : (j : Int) < (m : Int) := by omega
      have hj0 : (0 : Int) ≤ (j : Int) + 1 := by omega
      have hjN : j < m := by omega
      have hjm1 : (j : Int) + 1 < (m : Int) + 1 := by omega
      obtain ⟨db, off, rfl, hdb, hcells⟩ := H.out.2.2.2 (by omega)
      obtain ⟨q0, q1, q2⟩ := hcells (j + 1) hj1
      obtain ⟨r0, r1, r2⟩ := hcells j (by omega)
      have HV := Lib.hid (show TwoS w db (off + (j + 1) * 3) db (off + j * 3) ds[j + 1] ds[j] wr.drew from TwoS.drew ⟨cell_on HB.out q0, cell_on HB.out q1, cell_on HB.out q2, cell_on HB.out r0, cell_on HB.out r1, cell_on HB.out r2, HB.out⟩)
      have HST := Lib.hid (show M.ahead ds[j + 1] ds[j] = true → M.risesB ds = false from M.risesB_no j hj1)
      have HNX := Lib.hid (show M.ahead ds[j + 1] ds[j] = false → ∀ i (hi : i + 1 < ds.length), j < i + 1 → M.ahead ds[i + 1] ds[i] = false from fun ha i hi hji => by
        rcases Nat.lt_or_ge (j + 1) (i + 1) with h | h
        · exact HI.out i hi h
        · obtain rfl : i = j := by omega
          exact ha)
      clear hcells q0 q1 q2 r0 r1 r2 HI
      generalize ds[j + 1] = x at *
      generalize ds[j] = y at *
      have HOR := Lib.hid (fun W => order_any x y W)
      have HOL := Lib.hid (M.order_lt x y)
      obtain ⟨z, hz⟩ : ∃ z, M.order x y = z := ⟨_, rfl⟩
      obtain ⟨ab, hab⟩ : ∃ ab, M.ahead x y = ab := ⟨_, rfl⟩
      rw [hz] at HOR HOL
      rw [hab] at HOL HST HNX
      clear hz hab
      obtain ⟨i1, t1, x1⟩ := x
      obtain ⟨i2, t2, x2⟩ := y
      unfold dval at HOR
      simp only at HOR
      cases ab
      · have hz : decide (z < 0) = false := HOL.out
        have HNX' := Lib.hid (HNX.out rfl)
        clear HST HNX HOL
        go_wp2_with fail
        go_region_held3 (fun W => W.cell? ⟨db, off + (j + 1) * 3, none⟩ = some (.string ⟨i1.toArray⟩) ∧ W.cell? ⟨db, off + (j + 1) * 3 + 1, none⟩ = some (.int .i64 t1) ∧ W.cell? ⟨db, off + (j + 1) * 3 + 2, none⟩ = some (.string ⟨x1.toArray⟩) ∧
            W.cell? ⟨db, off + j * 3, none⟩ = some (.string ⟨i2.toArray⟩) ∧ W.cell? ⟨db, off + j * 3 + 1, none⟩ = some (.int .i64 t2) ∧ W.cell? ⟨db, off + j * 3 + 2, none⟩ = some (.string ⟨x2.toArray⟩) ∧ Below w.heap.size w W)
          (first | exact hHeld | exact HV.out | exact hV2 | fail)
          (first
            | (go_at_call 15; refine (HOR.out _).mono ?_; rintro e w2 ⟨rfl, hb2⟩; have hV2 := HV.out.on hb2)
            | fail)
        all_goals
          have HB2 := Lib.hid hV2.bel
          clear hb2 hV2
          go_wp2
          go_roundw
          case rel => exact ⟨j, by go_num, by omega, HNX', HB2⟩
          case measure => simp [intOf]
      · have hz : decide (z < 0) = true := HOL.out
        have HF := Lib.hid (HST.out rfl)
        clear HST HNX HOL
        go_wp2_with fail
        go_region_held3 (fun W => W.cell? ⟨db, off + (j + 1) * 3, none⟩ = some (.string ⟨i1.toArray⟩) ∧ W.cell? ⟨db, off + (j + 1) * 3 + 1, none⟩ = some (.int .i64 t1) ∧ W.cell? ⟨db, off + (j + 1) * 3 + 2, none⟩ = some (.string ⟨x1.toArray⟩) ∧
            W.cell? ⟨db, off + j * 3, none⟩ = some (.string ⟨i2.toArray⟩) ∧ W.cell? ⟨db, off + j * 3 + 1, none⟩ = some (.int .i64 t2) ∧ W.cell? ⟨db, off + j * 3 + 2, none⟩ = some (.string ⟨x2.toArray⟩) ∧ Below w.heap.size w W)
          (first | exact hHeld | exact HV.out | exact hV2 | fail)
          (first
            | (go_at_call 15; refine (HOR.out _).mono ?_; rintro e w2 ⟨rfl, hb2⟩; have hV2 := HV.out.on hb2)
            | fail)
        all_goals
          have HB2 := Lib.hid hV2.bel
          clear hb2 hV2
          go_wp2
          go_ret
          rw [HF.out]
          exact ⟨rfl, HB2.out⟩
end Go.Proofs.Ytpnhjcedhcgglaa
