/-
  The law MetaNews, its walk.
-/
import Derived.Test.YtghnelfgnfhclaaMetaQ
import Derived.Test.YtghnelfgnfhclaaMetaK
namespace Go.Proofs.Ytghnelfgnfhclaa
open Go.RowKit Mem Go.ChangeShapes
set_option linter.unusedVariables false
set_option maxRecDepth 100000

/-- a table's box, and nothing elder changed -/
def Kept (w0 : World) (g : Nat) (z : Int) (A : Option Addr) (n c : Nat) (W : World) : Prop :=
  W.cell? ⟨g, 0, none⟩ = some (.int .i64 z) ∧ W.cell? ⟨g, 1, none⟩ = some (.slice A n c) ∧ Below w0.heap.size w0 W
section
variable {w0 W W' : World} {g n c : Nat} {z : Int} {A : Option Addr}
theorem cell_lt {W : World} {g j : Nat} {v : Value} (h : W.cell? ⟨g, j, none⟩ = some v) : g < W.heap.size := by
  rcases Nat.lt_or_ge g W.heap.size with hl | hl
  · exact hl
  · exfalso
    have hn : W.heap[g]? = none := Array.getElem?_eq_none hl
    unfold World.cell? at h
    simp [hn] at h
theorem Kept.on (h : Kept w0 g z A n c W) (hb : Below W.heap.size W W') : Kept w0 g z A n c W' :=
  ⟨(hb.cell (p := ⟨g, 0, none⟩) (cell_lt h.1)).trans h.1, (hb.cell (p := ⟨g, 1, none⟩) (cell_lt h.1)).trans h.2.1, h.2.2.trans (hb.mono h.2.2.size)⟩
theorem Kept.bel (h : Kept w0 g z A n c W) : Below w0.heap.size w0 W := h.2.2
theorem Kept.drewN (h : Kept w0 g z A n c W) (k : Nat) : Kept w0 g z A n c (W.drewN k) :=
  ⟨h.1, h.2.1, ⟨h.2.2.os, h.2.2.tape, h.2.2.output, h.2.2.size, h.2.2.block⟩⟩
end
def RefT (n s c : Nat) (w : World) (e : Ending) (w' : World) : Prop :=
  ∃ A' c', e = .returned (.agg #[.int .i64 (n : Int), .slice A' s c']) ∧ TabIs w' w'.heap.size A' s c' (M.new n s c) ∧ Below w.heap.size w w'
theorem refNew_tab (n s c : Nat) (hn1 : 1 ≤ n) (hn5 : n ≤ 5) (hs8 : s ≤ 8) (hc5 : c ≤ 5) (w : World) : Calls Try.prog 13 #[.int .i64 (n : Int), .int .i64 (s : Int), .int .i64 (c : Int)] w (RefT n s c w) := by
  refine (refNew_any n s c hn1 hn5 hs8 hc5 w).mono ?_
  rintro e w' ⟨v', xs, rfl, ho, he, hb⟩
  obtain ⟨A', c', rfl, ht⟩ := tab_of_own ho he (new_fit hn5 hs8 hn1)
  have hl : (M.new n s c).rows.length = s := by simp [M.new]
  rw [hl] at ht ⊢
  exact ⟨A', c', rfl, ht, hb⟩
theorem copy_tab (v : Value) (t : M.T) (w : World) (h : RdT w w.heap.size v t) : Calls Try.prog 16 #[v] w fun e w' => ∃ A' c', e = .returned (.agg #[.int .i64 t.nodes, .slice A' t.rows.length c']) ∧ TabIs w' w'.heap.size A' t.rows.length c' t ∧ Below w.heap.size w w' := by
  refine (copy_any v t w h).mono ?_
  rintro e w' ⟨v', xs, rfl, ho, he, hb⟩
  obtain ⟨A', c', rfl, ht⟩ := tab_of_own ho he h.fit
  exact ⟨A', c', rfl, ht, hb⟩

set_option maxHeartbeats 4000000 in
theorem metaNews_any (nd sh cs : Int) (t : M.T) (A : Option Addr) (m cp : Nat) (w : World) (ht : TabIs w w.heap.size A m cp t) (hnn : I64 t.nodes) : Calls Try.prog 3 #[.int .i64 nd, .int .i64 sh, .int .i64 cs, .agg #[.int .i64 t.nodes, .slice A m cp]] w (SaysB true w) := by
  have hml := ht.len
  have HRD := Lib.hid (fun (W : World) (h : Below w.heap.size w W) => (ht.on h).rdt hnn)
  have HF1 := Lib.hid (fun (W : World) (h : Below w.heap.size w W) => form_any _ t W (HRD.out W h))
  have HF2 := Lib.hid (fun (W : World) (h : Below w.heap.size w W) => refForm_any _ t W (HRD.out W h))
  have HCP := Lib.hid (fun (W : World) (h : Below w.heap.size w W) => copy_tab _ t W (HRD.out W h))
  have HSM := Lib.hid (fun (W : World) (A2 : Option Addr) (c2 : Nat) (h : Below w.heap.size w W) (h2 : TabIs W W.heap.size A2 t.rows.length c2 t) => same_any _ _ t t W (h2.rdt hnn) (HRD.out W h))
  rw [← hml] at HCP HSM
  rw [show decide (t = t) = true from by simp] at HSM
  generalize M.form t = fm at *
  obtain ⟨nn, hnn2⟩ : ∃ nn, nn = t.nodes := ⟨_, rfl⟩
  rw [← hnn2] at HRD HF1 HF2 HCP HSM ⊢
  have HB := ht.bounds
  have hb1 := HB.1; have hb2 := HB.2.1
  clear HB hnn2 hml ht hnn HRD
  have HA := Lib.hid (fun W => awake14_any W)
  obtain ⟨w1, hw1⟩ : ∃ w1, w1 = w.alloc (.cells #[.int .i64 nn, .slice A m cp] 24) := ⟨_, rfl⟩
  have HK1 := Lib.hid (show Kept w w.heap.size nn A m cp w1 by
    rw [hw1]
    exact ⟨cellAt 0 (heapNew (w := w) _), cellAt 1 (heapNew (w := w) _), bel_alloc' w _⟩)
  have HW1 := Lib.hid hw1.symm
  clear hw1
  go_enter Try.func3, Try.ntmps3
  go_wp2_with fail
  rw [HW1.out]
  refine (HA.out w1).mono ?_
  rintro e w2 ⟨rfl, hbA⟩
  have HK2 := Lib.hid (HK1.out.on hbA)
  clear hbA HW1 HK1
  by_cases h1 : nd < 1
  · go_wp2_with fail
    refine (new_bad nd sh cs (by omega) _).mono ?_
    rintro e w3 ⟨rfl, hb3⟩
    have HK9 := Lib.hid ((HK2.out.on hb3).on (bel_alloc' w3 (.cells #[.int .i64 0, .slice none 0 0] 24)))
    clear hb3
    obtain ⟨t0, t1, _⟩ := HK9.out
    go_wp2_with fail
    go_region_held3 (fun W => W.cell? ⟨w.heap.size, 0, none⟩ = some (.int .i64 nn) ∧ W.cell? ⟨w.heap.size, 1, none⟩ = some (.slice A m cp) ∧ Below w.heap.size w W)
      (first | exact hHeld | exact hX4 | exact hX3 | exact hX2 | exact hX1 | exact HK9.out | exact HK9.out.drewN 1)
      (first
        | (go_at_call 14; refine (HF1.out _ (Kept.bel (g := w.heap.size) (z := nn) (A := A) (n := m) (c := cp) (by assumption))).mono ?_; rintro e y1 ⟨rfl, hb1⟩; have hX1 := Kept.on (w0 := w) (g := w.heap.size) (z := nn) (A := A) (n := m) (c := cp) (by assumption) hb1)
        | (go_at_call 15; refine (HF2.out _ (Kept.bel (g := w.heap.size) (z := nn) (A := A) (n := m) (c := cp) (by assumption))).mono ?_; rintro e y2 ⟨rfl, hb2⟩; have hX2 := Kept.on (w0 := w) (g := w.heap.size) (z := nn) (A := A) (n := m) (c := cp) (by assumption) hb2)
        | (go_at_call 16; refine (HCP.out _ (Kept.bel (g := w.heap.size) (z := nn) (A := A) (n := m) (c := cp) (by assumption))).mono ?_; rintro e y3 ⟨A3, c3, rfl, ht3, hb3⟩; have hX3 := Kept.on (w0 := w) (g := w.heap.size) (z := nn) (A := A) (n := m) (c := cp) (by assumption) hb3)
        | (go_at_call 12; refine (HSM.out _ _ _ hX3.bel ht3).mono ?_; rintro e y4 ⟨rfl, hb4⟩; have hX4 := hX3.on hb4))
    all_goals
      have HB9 := Lib.hid hX4.bel
      go_wp2
      go_ret
      exact ⟨rfl, HB9.out⟩
  by_cases h2 : 5 < nd
  · go_wp2_with fail
    refine (new_bad nd sh cs (by omega) _).mono ?_
    rintro e w3 ⟨rfl, hb3⟩
    have HK9 := Lib.hid ((HK2.out.on hb3).on (bel_alloc' w3 (.cells #[.int .i64 0, .slice none 0 0] 24)))
    clear hb3
    obtain ⟨t0, t1, _⟩ := HK9.out
    go_wp2_with fail
    go_region_held3 (fun W => W.cell? ⟨w.heap.size, 0, none⟩ = some (.int .i64 nn) ∧ W.cell? ⟨w.heap.size, 1, none⟩ = some (.slice A m cp) ∧ Below w.heap.size w W)
      (first | exact hHeld | exact hX4 | exact hX3 | exact hX2 | exact hX1 | exact HK9.out | exact HK9.out.drewN 1)
      (first
        | (go_at_call 14; refine (HF1.out _ (Kept.bel (g := w.heap.size) (z := nn) (A := A) (n := m) (c := cp) (by assumption))).mono ?_; rintro e y1 ⟨rfl, hb1⟩; have hX1 := Kept.on (w0 := w) (g := w.heap.size) (z := nn) (A := A) (n := m) (c := cp) (by assumption) hb1)
        | (go_at_call 15; refine (HF2.out _ (Kept.bel (g := w.heap.size) (z := nn) (A := A) (n := m) (c := cp) (by assumption))).mono ?_; rintro e y2 ⟨rfl, hb2⟩; have hX2 := Kept.on (w0 := w) (g := w.heap.size) (z := nn) (A := A) (n := m) (c := cp) (by assumption) hb2)
        | (go_at_call 16; refine (HCP.out _ (Kept.bel (g := w.heap.size) (z := nn) (A := A) (n := m) (c := cp) (by assumption))).mono ?_; rintro e y3 ⟨A3, c3, rfl, ht3, hb3⟩; have hX3 := Kept.on (w0 := w) (g := w.heap.size) (z := nn) (A := A) (n := m) (c := cp) (by assumption) hb3)
        | (go_at_call 12; refine (HSM.out _ _ _ hX3.bel ht3).mono ?_; rintro e y4 ⟨rfl, hb4⟩; have hX4 := hX3.on hb4))
    all_goals
      have HB9 := Lib.hid hX4.bel
      go_wp2
      go_ret
      exact ⟨rfl, HB9.out⟩
  by_cases h3 : sh < 1
  · go_wp2_with fail
    refine (new_bad nd sh cs (by omega) _).mono ?_
    rintro e w3 ⟨rfl, hb3⟩
    have HK9 := Lib.hid ((HK2.out.on hb3).on (bel_alloc' w3 (.cells #[.int .i64 0, .slice none 0 0] 24)))
    clear hb3
    obtain ⟨t0, t1, _⟩ := HK9.out
    go_wp2_with fail
    go_region_held3 (fun W => W.cell? ⟨w.heap.size, 0, none⟩ = some (.int .i64 nn) ∧ W.cell? ⟨w.heap.size, 1, none⟩ = some (.slice A m cp) ∧ Below w.heap.size w W)
      (first | exact hHeld | exact hX4 | exact hX3 | exact hX2 | exact hX1 | exact HK9.out | exact HK9.out.drewN 1)
      (first
        | (go_at_call 14; refine (HF1.out _ (Kept.bel (g := w.heap.size) (z := nn) (A := A) (n := m) (c := cp) (by assumption))).mono ?_; rintro e y1 ⟨rfl, hb1⟩; have hX1 := Kept.on (w0 := w) (g := w.heap.size) (z := nn) (A := A) (n := m) (c := cp) (by assumption) hb1)
        | (go_at_call 15; refine (HF2.out _ (Kept.bel (g := w.heap.size) (z := nn) (A := A) (n := m) (c := cp) (by assumption))).mono ?_; rintro e y2 ⟨rfl, hb2⟩; have hX2 := Kept.on (w0 := w) (g := w.heap.size) (z := nn) (A := A) (n := m) (c := cp) (by assumption) hb2)
        | (go_at_call 16; refine (HCP.out _ (Kept.bel (g := w.heap.size) (z := nn) (A := A) (n := m) (c := cp) (by assumption))).mono ?_; rintro e y3 ⟨A3, c3, rfl, ht3, hb3⟩; have hX3 := Kept.on (w0 := w) (g := w.heap.size) (z := nn) (A := A) (n := m) (c := cp) (by assumption) hb3)
        | (go_at_call 12; refine (HSM.out _ _ _ hX3.bel ht3).mono ?_; rintro e y4 ⟨rfl, hb4⟩; have hX4 := hX3.on hb4))
    all_goals
      have HB9 := Lib.hid hX4.bel
      go_wp2
      go_ret
      exact ⟨rfl, HB9.out⟩
  by_cases h4 : 8 < sh
  · go_wp2_with fail
    refine (new_bad nd sh cs (by omega) _).mono ?_
    rintro e w3 ⟨rfl, hb3⟩
    have HK9 := Lib.hid ((HK2.out.on hb3).on (bel_alloc' w3 (.cells #[.int .i64 0, .slice none 0 0] 24)))
    clear hb3
    obtain ⟨t0, t1, _⟩ := HK9.out
    go_wp2_with fail
    go_region_held3 (fun W => W.cell? ⟨w.heap.size, 0, none⟩ = some (.int .i64 nn) ∧ W.cell? ⟨w.heap.size, 1, none⟩ = some (.slice A m cp) ∧ Below w.heap.size w W)
      (first | exact hHeld | exact hX4 | exact hX3 | exact hX2 | exact hX1 | exact HK9.out | exact HK9.out.drewN 1)
      (first
        | (go_at_call 14; refine (HF1.out _ (Kept.bel (g := w.heap.size) (z := nn) (A := A) (n := m) (c := cp) (by assumption))).mono ?_; rintro e y1 ⟨rfl, hb1⟩; have hX1 := Kept.on (w0 := w) (g := w.heap.size) (z := nn) (A := A) (n := m) (c := cp) (by assumption) hb1)
        | (go_at_call 15; refine (HF2.out _ (Kept.bel (g := w.heap.size) (z := nn) (A := A) (n := m) (c := cp) (by assumption))).mono ?_; rintro e y2 ⟨rfl, hb2⟩; have hX2 := Kept.on (w0 := w) (g := w.heap.size) (z := nn) (A := A) (n := m) (c := cp) (by assumption) hb2)
        | (go_at_call 16; refine (HCP.out _ (Kept.bel (g := w.heap.size) (z := nn) (A := A) (n := m) (c := cp) (by assumption))).mono ?_; rintro e y3 ⟨A3, c3, rfl, ht3, hb3⟩; have hX3 := Kept.on (w0 := w) (g := w.heap.size) (z := nn) (A := A) (n := m) (c := cp) (by assumption) hb3)
        | (go_at_call 12; refine (HSM.out _ _ _ hX3.bel ht3).mono ?_; rintro e y4 ⟨rfl, hb4⟩; have hX4 := hX3.on hb4))
    all_goals
      have HB9 := Lib.hid hX4.bel
      go_wp2
      go_ret
      exact ⟨rfl, HB9.out⟩
  by_cases h5 : cs < 1
  · go_wp2_with fail
    refine (new_bad nd sh cs (by omega) _).mono ?_
    rintro e w3 ⟨rfl, hb3⟩
    have HK9 := Lib.hid ((HK2.out.on hb3).on (bel_alloc' w3 (.cells #[.int .i64 0, .slice none 0 0] 24)))
    clear hb3
    obtain ⟨t0, t1, _⟩ := HK9.out
    go_wp2_with fail
    go_region_held3 (fun W => W.cell? ⟨w.heap.size, 0, none⟩ = some (.int .i64 nn) ∧ W.cell? ⟨w.heap.size, 1, none⟩ = some (.slice A m cp) ∧ Below w.heap.size w W)
      (first | exact hHeld | exact hX4 | exact hX3 | exact hX2 | exact hX1 | exact HK9.out | exact HK9.out.drewN 1)
      (first
        | (go_at_call 14; refine (HF1.out _ (Kept.bel (g := w.heap.size) (z := nn) (A := A) (n := m) (c := cp) (by assumption))).mono ?_; rintro e y1 ⟨rfl, hb1⟩; have hX1 := Kept.on (w0 := w) (g := w.heap.size) (z := nn) (A := A) (n := m) (c := cp) (by assumption) hb1)
        | (go_at_call 15; refine (HF2.out _ (Kept.bel (g := w.heap.size) (z := nn) (A := A) (n := m) (c := cp) (by assumption))).mono ?_; rintro e y2 ⟨rfl, hb2⟩; have hX2 := Kept.on (w0 := w) (g := w.heap.size) (z := nn) (A := A) (n := m) (c := cp) (by assumption) hb2)
        | (go_at_call 16; refine (HCP.out _ (Kept.bel (g := w.heap.size) (z := nn) (A := A) (n := m) (c := cp) (by assumption))).mono ?_; rintro e y3 ⟨A3, c3, rfl, ht3, hb3⟩; have hX3 := Kept.on (w0 := w) (g := w.heap.size) (z := nn) (A := A) (n := m) (c := cp) (by assumption) hb3)
        | (go_at_call 12; refine (HSM.out _ _ _ hX3.bel ht3).mono ?_; rintro e y4 ⟨rfl, hb4⟩; have hX4 := hX3.on hb4))
    all_goals
      have HB9 := Lib.hid hX4.bel
      go_wp2
      go_ret
      exact ⟨rfl, HB9.out⟩
  by_cases h6 : nd < cs
  · go_wp2_with fail
    refine (new_bad nd sh cs (by omega) _).mono ?_
    rintro e w3 ⟨rfl, hb3⟩
    have HK9 := Lib.hid ((HK2.out.on hb3).on (bel_alloc' w3 (.cells #[.int .i64 0, .slice none 0 0] 24)))
    clear hb3
    obtain ⟨t0, t1, _⟩ := HK9.out
    go_wp2_with fail
    go_region_held3 (fun W => W.cell? ⟨w.heap.size, 0, none⟩ = some (.int .i64 nn) ∧ W.cell? ⟨w.heap.size, 1, none⟩ = some (.slice A m cp) ∧ Below w.heap.size w W)
      (first | exact hHeld | exact hX4 | exact hX3 | exact hX2 | exact hX1 | exact HK9.out | exact HK9.out.drewN 1)
      (first
        | (go_at_call 14; refine (HF1.out _ (Kept.bel (g := w.heap.size) (z := nn) (A := A) (n := m) (c := cp) (by assumption))).mono ?_; rintro e y1 ⟨rfl, hb1⟩; have hX1 := Kept.on (w0 := w) (g := w.heap.size) (z := nn) (A := A) (n := m) (c := cp) (by assumption) hb1)
        | (go_at_call 15; refine (HF2.out _ (Kept.bel (g := w.heap.size) (z := nn) (A := A) (n := m) (c := cp) (by assumption))).mono ?_; rintro e y2 ⟨rfl, hb2⟩; have hX2 := Kept.on (w0 := w) (g := w.heap.size) (z := nn) (A := A) (n := m) (c := cp) (by assumption) hb2)
        | (go_at_call 16; refine (HCP.out _ (Kept.bel (g := w.heap.size) (z := nn) (A := A) (n := m) (c := cp) (by assumption))).mono ?_; rintro e y3 ⟨A3, c3, rfl, ht3, hb3⟩; have hX3 := Kept.on (w0 := w) (g := w.heap.size) (z := nn) (A := A) (n := m) (c := cp) (by assumption) hb3)
        | (go_at_call 12; refine (HSM.out _ _ _ hX3.bel ht3).mono ?_; rintro e y4 ⟨rfl, hb4⟩; have hX4 := hX3.on hb4))
    all_goals
      have HB9 := Lib.hid hX4.bel
      go_wp2
      go_ret
      exact ⟨rfl, HB9.out⟩
  obtain ⟨n, rfl⟩ : ∃ n : Nat, nd = (n : Int) := ⟨nd.toNat, by omega⟩
  obtain ⟨s, rfl⟩ : ∃ s : Nat, sh = (s : Int) := ⟨sh.toNat, by omega⟩
  obtain ⟨c, rfl⟩ : ∃ c : Nat, cs = (c : Int) := ⟨cs.toNat, by omega⟩
  have HNW := Lib.hid (new_tab n s c (by omega) (by omega) (by omega) (by omega) (by omega) (by omega) w2)
  have HNR := Lib.hid (fun W => refNew_tab n s c (by omega) (by omega) (by omega) (by omega) W)
  have HFN := Lib.hid (M.new_form n s c (by omega) (by omega) (by omega) (by omega) (by omega) (by omega))
  have HIN := Lib.hid (show I64 (M.new n s c).nodes by unfold M.new I64; simp only; omega)
  go_wp2_with fail
  refine HNW.out.mono ?_
  rintro e w3 ⟨Au, cu, rfl, htu, hb3⟩
  obtain ⟨wb, hwb⟩ : ∃ wb, wb = w3.alloc (.cells #[.int .i64 (n : Int), .slice Au s cu] 24) := ⟨_, rfl⟩
  have hbw : Below w3.heap.size w3 wb := by rw [hwb]; exact bel_alloc' w3 _
  have HKW := Lib.hid ((HK2.out.on hb3).on hbw)
  have HKU := Lib.hid (show Kept wb w3.heap.size (n : Int) Au s cu wb by
    rw [hwb]
    exact ⟨cellAt 0 (heapNew (w := w3) _), cellAt 1 (heapNew (w := w3) _), Below.refl _ _⟩)
  have HTU := Lib.hid (htu.on hbw)
  have HU1 := Lib.hid (fun (W : World) (h : Below wb.heap.size wb W) => form_any _ (M.new n s c) W ((HTU.out.on h).rdt HIN.out))
  have HU2 := Lib.hid (fun (W : World) (A2 : Option Addr) (c2 : Nat) (h : Below wb.heap.size wb W) (h2 : TabIs W W.heap.size A2 s c2 (M.new n s c)) => same_any _ _ (M.new n s c) (M.new n s c) W ((HTU.out.on h).rdt HIN.out) (h2.rdt HIN.out))
  rw [show decide (M.new n s c = M.new n s c) = true from by simp] at HU2
  rw [HFN.out] at HU1
  have hnd : (M.new n s c).nodes = (n : Int) := rfl
  rw [hnd] at HU1 HU2
  have HWB := Lib.hid hwb.symm
  clear hb3 hbw hwb htu hnd HNW
  go_upto_region 5 with (fail)
  rw [HWB.out]
  obtain ⟨u0, u1, _⟩ := HKU.out
  go_wp2_with fail
  go_region_held3 (fun W => W.cell? ⟨w3.heap.size, 0, none⟩ = some (.int .i64 (n : Int)) ∧ W.cell? ⟨w3.heap.size, 1, none⟩ = some (.slice Au s cu) ∧ Below wb.heap.size wb W)
    (first | exact hHeld | exact hZ3 | exact hZ2 | exact hZ1 | exact HKU.out | exact HKU.out.drewN 1)
    (first
      | (go_at_call 13; refine (HNR.out _).mono ?_; rintro e z1 ⟨A1, c1, rfl, ht1, hd1⟩; have hZ1 := Kept.on (w0 := wb) (g := w3.heap.size) (z := (n : Int)) (A := Au) (n := s) (c := cu) (by assumption) hd1)
      | (go_at_call 12; refine (HU2.out _ _ _ hZ1.bel ht1).mono ?_; rintro e z2 ⟨rfl, hd2⟩; have hZ2 := hZ1.on hd2)
      | (go_at_call 14; refine (HU1.out _ hZ2.bel).mono ?_; rintro e z3 ⟨rfl, hd3⟩; have hZ3 := hZ2.on hd3))
  all_goals
    have HK9 := Lib.hid (HKW.out.on hZ3.bel)
    clear hZ3 hZ2 hZ1 ht1 hd1 hd2 hd3
    obtain ⟨t0, t1, _⟩ := HK9.out
    go_wp2_with fail
    go_region_held3 (fun W => W.cell? ⟨w.heap.size, 0, none⟩ = some (.int .i64 nn) ∧ W.cell? ⟨w.heap.size, 1, none⟩ = some (.slice A m cp) ∧ Below w.heap.size w W)
      (first | exact hHeld | exact hX4 | exact hX3 | exact hX2 | exact hX1 | exact HK9.out | exact HK9.out.drewN 1)
      (first
        | (go_at_call 14; refine (HF1.out _ (Kept.bel (g := w.heap.size) (z := nn) (A := A) (n := m) (c := cp) (by assumption))).mono ?_; rintro e y1 ⟨rfl, hb1⟩; have hX1 := Kept.on (w0 := w) (g := w.heap.size) (z := nn) (A := A) (n := m) (c := cp) (by assumption) hb1)
        | (go_at_call 15; refine (HF2.out _ (Kept.bel (g := w.heap.size) (z := nn) (A := A) (n := m) (c := cp) (by assumption))).mono ?_; rintro e y2 ⟨rfl, hb2⟩; have hX2 := Kept.on (w0 := w) (g := w.heap.size) (z := nn) (A := A) (n := m) (c := cp) (by assumption) hb2)
        | (go_at_call 16; refine (HCP.out _ (Kept.bel (g := w.heap.size) (z := nn) (A := A) (n := m) (c := cp) (by assumption))).mono ?_; rintro e y3 ⟨A3, c3, rfl, ht3, hb3⟩; have hX3 := Kept.on (w0 := w) (g := w.heap.size) (z := nn) (A := A) (n := m) (c := cp) (by assumption) hb3)
        | (go_at_call 12; refine (HSM.out _ _ _ hX3.bel ht3).mono ?_; rintro e y4 ⟨rfl, hb4⟩; have hX4 := hX3.on hb4))
    all_goals
      have HB9 := Lib.hid hX4.bel
      go_wp2
      go_ret
      exact ⟨rfl, HB9.out⟩
end Go.Proofs.Ytghnelfgnfhclaa
