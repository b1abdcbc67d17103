/-
  The law MatchHas, by the contracts.
-/
import Derived.Test.YtkchmbcaihknkaaDoorMatchK
namespace Go.Proofs.YtkchmbcaihknkaaDoor
open Go.RowKit Mem
set_option linter.unusedVariables false
set_option maxRecDepth 100000

set_option maxHeartbeats 4000000 in
theorem matchHas_any (q : Q) (d : M.D) (w : World) (hT : Tabs w) (hs : d.text.length ≤ 1048576) (hq : Q.Ok w w.heap.size q) :
    Calls Tryd.prog 3 #[q.val, dval d] w (SaysB true w) := by
  have HQ := Lib.hid hq
  have HT := Lib.hid hT
  obtain ⟨k, t, z, A, n, c, ks⟩ := q
  obtain ⟨id, tm, text⟩ := d
  simp only at hs
  obtain ⟨K, hK⟩ : ∃ K : Int, (k : Int) = K := ⟨_, rfl⟩
  have HX := Lib.hid (Boxes.new w K t z A n c ⟨id, tm, text⟩)
  have HG := Lib.hid (great_any (.mk k t z A n c ks) ((w.alloc (.cells #[.int .u8 K, .string ⟨t.toArray⟩, .int .i64 z, .slice A n c] 24)).alloc (.cells #[.string ⟨id.toArray⟩, .int .i64 tm, .string ⟨text.toArray⟩] 26)) ((HQ.out.on HX.out.bel).more HX.out.bel.size))
  have HW := Lib.hid (fun (W : World) (h : Below w.heap.size w W) => awake7_any W (HT.out.below h))
  have HC1 := Lib.hid (fun (W : World) (h : Below w.heap.size w W) => has_any (.mk k t z A n c ks) ⟨id, tm, text⟩ W (HT.out.below h) (by show text.length ≤ _; omega) ((HQ.out.on h).more h.size))
  have HC2 := Lib.hid (fun (W : World) (h : Below w.heap.size w W) => ref_has_any (.mk k t z A n c ks) ⟨id, tm, text⟩ W (HT.out.below h) (by show text.length ≤ _; omega) ((HQ.out.on h).more h.size))
  have HC3 := Lib.hid (fun (W : World) (h : Below w.heap.size w W) => form_any ⟨id, tm, text⟩ W)
  have HC4 := Lib.hid (fun (W : World) (h : Below w.heap.size w W) => ref_form_any ⟨id, tm, text⟩ W)
  unfold Q.val at HG HC1 HC2 ⊢
  unfold dval at HC1 HC2 HC3 HC4 ⊢
  simp only at HG HC1 HC2 HC3 HC4 ⊢
  rw [hK] at HG HC1 HC2 ⊢
  clear hT hq HT HQ hs
  generalize Q.has tm (M.terms text) (.mk k t z A n c ks) = b at *
  generalize M.formB id text = f at *
  clear hK
  go_enter Tryd.func3, Tryd.ntmps3
  go_wp2_with fail
  refine HG.out.mono ?_
  rintro e w1 ⟨gr, rfl, hb1⟩
  have HX1 := Lib.hid (HX.out.on hb1)
  clear hb1 HX HG
  have hbb : (b == b) = true := by simp
  have hff : (f == f) = true := by simp
  cases gr with
  | true =>
    go_wp2_with fail
    refine (HW.out _ HX1.out.bel).mono ?_
    rintro e w2 ⟨rfl, hb2⟩
    have HB2 := Lib.hid (HX1.out.on hb2).bel
    clear hb2
    go_wp2
    go_ret
    exact ⟨rfl, HB2.out⟩
  | false =>
    go_wp2_with fail
    refine (HW.out _ HX1.out.bel).mono ?_
    rintro e w2 ⟨rfl, hb2⟩
    have HX := Lib.hid (HX1.out.on hb2)
    clear hb2 HX1
    go_wp2_with fail
    go_region_held3 (fun W => W.cell? ⟨w.heap.size, 0, none⟩ = some (.int .u8 K) ∧ W.cell? ⟨w.heap.size, 1, none⟩ = some (.string ⟨t.toArray⟩) ∧ W.cell? ⟨w.heap.size, 2, none⟩ = some (.int .i64 z) ∧ W.cell? ⟨w.heap.size, 3, none⟩ = some (.slice A n c) ∧
        W.cell? ⟨w.heap.size + 1, 0, none⟩ = some (.string ⟨id.toArray⟩) ∧ W.cell? ⟨w.heap.size + 1, 1, none⟩ = some (.int .i64 tm) ∧ W.cell? ⟨w.heap.size + 1, 2, none⟩ = some (.string ⟨text.toArray⟩) ∧ Below w.heap.size w W)
      (first | exact hHeld | exact HX.out | exact HX.out.drewN 1 | exact hX3 | exact hX4 | exact hX5 | exact hX6)
      (first
        | (go_at_call 11; refine (HC1.out _ (Boxes.bel (w0 := w) (g := w.heap.size) (K := K) (t := t) (z := z) (A := A) (n := n) (c := c) (d := ⟨id, tm, text⟩) (by assumption))).mono ?_; rintro e w3 ⟨rfl, hb3⟩; have hX3 := Boxes.on (w0 := w) (g := w.heap.size) (K := K) (t := t) (z := z) (A := A) (n := n) (c := c) (d := ⟨id, tm, text⟩) (by assumption) hb3)
        | (go_at_call 12; refine (HC2.out _ (Boxes.bel (w0 := w) (g := w.heap.size) (K := K) (t := t) (z := z) (A := A) (n := n) (c := c) (d := ⟨id, tm, text⟩) (by assumption))).mono ?_; rintro e w4 ⟨rfl, hb4⟩; have hX4 := Boxes.on (w0 := w) (g := w.heap.size) (K := K) (t := t) (z := z) (A := A) (n := n) (c := c) (d := ⟨id, tm, text⟩) (by assumption) hb4)
        | (go_at_call 13; refine (HC3.out _ (Boxes.bel (w0 := w) (g := w.heap.size) (K := K) (t := t) (z := z) (A := A) (n := n) (c := c) (d := ⟨id, tm, text⟩) (by assumption))).mono ?_; rintro e w5 ⟨rfl, hb5⟩; have hX5 := Boxes.on (w0 := w) (g := w.heap.size) (K := K) (t := t) (z := z) (A := A) (n := n) (c := c) (d := ⟨id, tm, text⟩) (by assumption) hb5)
        | (go_at_call 14; refine (HC4.out _ (Boxes.bel (w0 := w) (g := w.heap.size) (K := K) (t := t) (z := z) (A := A) (n := n) (c := c) (d := ⟨id, tm, text⟩) (by assumption))).mono ?_; rintro e w6 ⟨rfl, hb6⟩; have hX6 := Boxes.on (w0 := w) (g := w.heap.size) (K := K) (t := t) (z := z) (A := A) (n := n) (c := c) (d := ⟨id, tm, text⟩) (by assumption) hb6))
    all_goals
      have HBB := Lib.hid (Boxes.bel (w0 := w) (g := w.heap.size) (K := K) (t := t) (z := z) (A := A) (n := n) (c := c) (d := ⟨id, tm, text⟩) (by assumption))
      go_wp2
      go_ret
      exact ⟨rfl, HBB.out⟩
end Go.Proofs.YtkchmbcaihknkaaDoor
