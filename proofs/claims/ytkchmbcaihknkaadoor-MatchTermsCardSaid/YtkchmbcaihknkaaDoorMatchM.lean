/-
  The law MatchTerms, by the contracts.
-/
import Derived.Test.YtkchmbcaihknkaaDoorMatchK
namespace Go.Proofs.YtkchmbcaihknkaaDoor
open Go.RowKit Mem
set_option linter.unusedVariables false
set_option maxRecDepth 100000

/-- an entry in block g, a text at one place, and nothing below w0's end has turned -/
def DocText (w0 : World) (g : Nat) (d : M.D) (b o : Nat) (y : List UInt8) (W : World) : Prop :=
  W.cell? ⟨g, 0, none⟩ = some (.string ⟨d.id.toArray⟩) ∧ W.cell? ⟨g, 1, none⟩ = some (.int .i64 d.time) ∧ W.cell? ⟨g, 2, none⟩ = some (.string ⟨d.text.toArray⟩) ∧ W.cell? ⟨b, o, none⟩ = some (.string ⟨y.toArray⟩) ∧ Below w0.heap.size w0 W
section
variable {w0 W W' : World} {g b o : Nat} {d : M.D} {y : List UInt8}
theorem DocText.on (h : DocText w0 g d b o y W) (hb : Below W.heap.size W W') : DocText w0 g d b o y W' :=
  ⟨cell_on hb h.1, cell_on hb h.2.1, cell_on hb h.2.2.1, cell_on hb h.2.2.2.1, h.2.2.2.2.trans (hb.mono h.2.2.2.2.size)⟩
theorem DocText.drewN (h : DocText w0 g d b o y W) (k : Nat) : DocText w0 g d b o y (W.drewN k) := ⟨h.1, h.2.1, h.2.2.1, h.2.2.2.1, bel_drewN h.2.2.2.2 k⟩
theorem DocText.bel (h : DocText w0 g d b o y W) : Below w0.heap.size w0 W := h.2.2.2.2
end
/-- is it among the first ones? -/
def among (x : List UInt8) (l : List (List UInt8)) (k : Nat) : Bool := decide (x ∈ l.take k)
theorem among_zero (x : List UInt8) (l : List (List UInt8)) : among x l 0 = false := by simp [among]
theorem among_step {x : List UInt8} {l : List (List UInt8)} {k : Nat} (hk : k < l.length) : among x l (k + 1) = (among x l k || (l[k] == x)) := by
  unfold among
  rw [List.take_succ_eq_append_getElem hk, beq_str, Bool.eq_iff_iff]
  simp only [List.mem_append, List.mem_singleton, decide_eq_true_eq, Bool.or_eq_true]
  exact ⟨fun h => h.imp_right Eq.symm, fun h => h.imp_right Eq.symm⟩
theorem among_all {x : List UInt8} {l : List (List UInt8)} {k : Nat} (hk : l.length ≤ k) : among x l k = decide (x ∈ l) := by unfold among; rw [List.take_of_length_le hk]

set_option maxHeartbeats 8000000 in
theorem matchTerms_any (d : M.D) (s : ByteArray) (w : World) (hT : Tabs w) :
    Calls Tryd.prog 7 #[dval d, .string s] w (SaysB true w) := by
  have HD0 := Lib.hid (DocIn.new w d)
  have HB0 := Lib.hid ((Below.refl w.heap.size w).alloc (Nat.le_refl _) (.cells #[.string ⟨d.id.toArray⟩, .int .i64 d.time, .string ⟨d.text.toArray⟩] 26))
  have HT := Lib.hid hT
  have HW := Lib.hid (fun (W : World) (h : Below w.heap.size w W) => awake7_any W (HT.out.below h))
  clear hT
  by_cases hbig : 600 < d.text.length ∨ 600 < s.size
  · have hq : decide ((600 : Int) < (d.text.length : Int)) = true ∨ decide ((600 : Int) < (d.text.length : Int)) = false ∧ decide ((600 : Int) < (s.size : Int)) = true := by
      by_cases h : 600 < d.text.length
      · left; simp; omega
      · right; exact ⟨by simp; omega, by simp; omega⟩
    clear hbig
    unfold dval
    rcases hq with hq | ⟨hq, hq2⟩
    all_goals
      go_enter Tryd.func7, Tryd.ntmps7
      go_wp2_with fail
      refine (HW.out _ HB0.out).mono ?_
      rintro e w1 ⟨rfl, hb1⟩
      have HD1 := Lib.hid (HD0.out.on hb1)
      have HB1 := Lib.hid (HB0.out.trans (hb1.mono HB0.out.size))
      obtain ⟨c0, c1, c2⟩ := HD1.out.cells
      clear hb1
      go_wp2_with fail
      refine (HW.out _ HB1.out).mono ?_
      rintro e w2 ⟨rfl, hb2⟩
      have HB2 := Lib.hid (HB1.out.trans (hb2.mono HB1.out.size))
      clear hb2
      go_wp2
      go_ret
      exact ⟨rfl, HB2.out⟩
  · have hd6 : d.text.length ≤ 600 := by omega
    have hs6 : s.size ≤ 600 := by omega
    have hq : decide ((600 : Int) < (d.text.length : Int)) = false := by simp; omega
    have hq2 : decide ((600 : Int) < (s.size : Int)) = false := by simp; omega
    have HC1 := Lib.hid (fun (W : World) (h : Below w.heap.size w W) => show Calls Tryd.prog 21 #[.string ⟨d.text.toArray⟩] W (SaysS (M.terms d.text) W) from ref_terms_any ⟨d.text.toArray⟩ W (by show d.text.length ≤ _; omega) (by show d.text.length ≤ _; omega) (HT.out.below h))
    have HC2 := Lib.hid (fun (W : World) (h : Below w.heap.size w W) => ref_terms_any s W (by omega) (by omega) (HT.out.below h))
    have HL1 := Lib.hid (fun (W : World) (h : Below w.heap.size w W) (y : List UInt8) => leaf_any 1 1 y 0 d W (HT.out.below h) (by omega) (by omega) (by omega) rfl (b := decide (y ∈ M.terms d.text)) Q.has1)
    have HL2 := Lib.hid (fun (W : World) (h : Below w.heap.size w W) (y : List UInt8) => leaf_any 2 2 y 0 d W (HT.out.below h) (by omega) (by omega) (by omega) rfl (b := decide (y ∈ M.terms d.text)) Q.has2)
    have HN1 := Lib.hid (terms_len d.text)
    have HN2 := Lib.hid (terms_len (bl s))
    rw [bl_len] at HN2
    unfold dval at HL1 HL2 ⊢
    clear hbig HT
    generalize M.terms d.text = l at *
    generalize M.terms (bl s) = m at *
    go_enter Tryd.func7, Tryd.ntmps7
    go_wp2_with fail
    refine (HW.out _ HB0.out).mono ?_
    rintro e w1 ⟨rfl, hb1⟩
    have HD1 := Lib.hid (HD0.out.on hb1)
    have HB1 := Lib.hid (HB0.out.trans (hb1.mono HB0.out.size))
    obtain ⟨c0, c1, c2⟩ := HD1.out.cells
    clear hb1 HW
    go_wp2_with fail
    refine (HC1.out _ HB1.out).mono ?_
    rintro e w2 ⟨A2, cap2, rfl, hr2, hb2⟩
    have HD2 := Lib.hid (HD1.out.on hb2)
    have HB2 := Lib.hid (HB1.out.trans (hb2.mono HB1.out.size))
    have HR2 := Lib.hid hr2
    have hc2 := hr2.2.1
    have hm2 := hr2.max
    obtain ⟨nl, HNL⟩ : ∃ nl, Hid (l.length = nl) := ⟨_, Lib.hid rfl⟩
    rw [HNL.out] at hc2 HR2 HN1 ⊢
    have hnl : nl ≤ 1200 := by have := HN1.out; omega
    clear hb2 hr2 c0 c1 c2 HC1 HD0 HB0 HD1 HB1 hq hq2 HN1
    go_wp2
    go_loopw [6] (fun i wr => ∃ j : Nat, i = .int .i64 j ∧ j ≤ nl ∧ Hid (Below w2.heap.size w2 wr)) (fun i _ => nl - (intOf i).toNat)
    case atStart => exact ⟨0, rfl, by omega, Lib.hid (Below.refl _ _)⟩
    case round =>
      obtain ⟨j, rfl, hj, HBr⟩ := hrel
      rename World => wr
      by_cases hlt : j < nl
      · have hix : j < l.length := by rw [HNL.out]; exact hlt
        obtain ⟨b, off, rfl, hb, q⟩ := (HR2.out.below HBr.out).at_ hlt
        rw [strs_at hix] at q
        have hil : (j : Int) < (nl : Int) := by omega
        have hmem : decide (l[j] ∈ l) = true := by simp
        obtain ⟨c0, c1, c2⟩ := (HD2.out.on HBr.out).cells
        generalize l[j] = y at *
        have HY := Lib.hid (show ∀ (W : World) (h : Below w.heap.size w W) (K : Int) (hK : K = 1 ∨ K = 2), Calls Tryd.prog 11 #[.agg #[.int .u8 K, .string ⟨y.toArray⟩, .int .i64 0, .slice none 0 0], .agg #[.string ⟨d.id.toArray⟩, .int .i64 d.time, .string ⟨d.text.toArray⟩]] W (SaysB true W) from fun W h K hK => by
          rcases hK with rfl | rfl
          · rw [← hmem]; exact HL1.out W h y
          · rw [← hmem]; exact HL2.out W h y)
        have HX := Lib.hid (show DocText w2 w.heap.size d b (off + j) y wr from ⟨c0, c1, c2, q, HBr.out⟩)
        clear hmem hix
        go_wp2_with fail
        go_region_held3 (fun W => W.cell? ⟨w.heap.size, 0, none⟩ = some (.string ⟨d.id.toArray⟩) ∧ W.cell? ⟨w.heap.size, 1, none⟩ = some (.int .i64 d.time) ∧ W.cell? ⟨w.heap.size, 2, none⟩ = some (.string ⟨d.text.toArray⟩) ∧ W.cell? ⟨b, off + j, none⟩ = some (.string ⟨y.toArray⟩) ∧ Below w2.heap.size w2 W)
          (first | exact hHeld | exact HX.out | exact HX.out.drewN 1 | exact hX3)
          (first
            | (go_at_call 11; refine (HY.out _ (HB2.out.trans ((DocText.bel (w0 := w2) (g := w.heap.size) (d := d) (b := b) (o := off + j) (y := y) (by assumption)).mono HB2.out.size)) _ (by first | exact .inl rfl | exact .inr rfl)).mono ?_; rintro e w3 ⟨rfl, hb3⟩; have hX3 := DocText.on (w0 := w2) (g := w.heap.size) (d := d) (b := b) (o := off + j) (y := y) (by assumption) hb3))
        all_goals
          have HBB := Lib.hid (DocText.bel (w0 := w2) (g := w.heap.size) (d := d) (b := b) (o := off + j) (y := y) (by assumption))
          clear c0 c1 c2 q
          go_wp2
          go_roundw
          case rel => exact ⟨j + 1, by go_num, by omega, HBB⟩
          case measure => simp [intOf]; omega
      · have HBw := Lib.hid (HB2.out.trans (HBr.out.mono HB2.out.size))
        go_wp2_with fail
        refine (HC2.out _ HBw.out).mono ?_
        rintro e w3 ⟨A3, cap3, rfl, hr3, hb3⟩
        have HR2' := Lib.hid ((HR2.out.below (HBr.out.trans (hb3.mono HBr.out.size))).more (HBr.out.trans (hb3.mono HBr.out.size)).size)
        have HD3 := Lib.hid ((HD2.out.on HBr.out).on hb3)
        have HB3 := Lib.hid (HBw.out.trans (hb3.mono HBw.out.size))
        have HR3 := Lib.hid hr3
        have hc3 := hr3.2.1
        have hm3 := hr3.max
        obtain ⟨nm, HNM⟩ : ∃ nm, Hid (m.length = nm) := ⟨_, Lib.hid rfl⟩
        rw [HNM.out] at hc3 HR3 HN2 ⊢
        have hnm : nm ≤ 1200 := by have := HN2.out; omega
        clear hb3 hr3 HC2 HBw HR2 HBr HD2 HB2 HL2 HN2
        go_wp2
        go_loopw [8] (fun i wr => ∃ j : Nat, i = .int .i64 j ∧ j ≤ nm ∧ Hid (Below w3.heap.size w3 wr)) (fun i _ => nm - (intOf i).toNat)
        case atStart => exact ⟨0, rfl, by omega, Lib.hid (Below.refl _ _)⟩
        case round =>
          obtain ⟨j, rfl, hj, HBr⟩ := hrel
          rename World => wq
          by_cases hlt : j < nm
          · have hix : j < m.length := by rw [HNM.out]; exact hlt
            obtain ⟨b, off, rfl, hb, q⟩ := (HR3.out.below HBr.out).at_ hlt
            rw [strs_at hix] at q
            have hil : (j : Int) < (nm : Int) := by omega
            generalize m[j] = y at *
            have HY1 := Lib.hid (fun (W : World) (h : Below w.heap.size w W) => HL1.out W h y)
            have HBq := Lib.hid (HB3.out.trans (HBr.out.mono HB3.out.size))
            clear hix
            go_wp2
            go_loopw [9, 10] (fun f i wr => ∃ k : Nat, i = .int .i64 k ∧ k ≤ nl ∧ f = .bool (among y l k) ∧ Hid (∃ x, wr = wq.drewN x)) (fun _ i _ => nl - (intOf i).toNat)
            case atStart => exact ⟨0, rfl, by omega, by rw [among_zero], Lib.hid ⟨0, rfl⟩⟩
            case round =>
              obtain ⟨k, rfl, hk, rfl, HWR⟩ := hrel
              obtain ⟨x0, rfl⟩ := HWR.out
              by_cases hkl : k < nl
              · have hix : k < l.length := by rw [HNL.out]; exact hkl
                obtain ⟨b', off', rfl, hb', q'⟩ := (HR2'.out.below HBr.out).at_ hkl
                rw [strs_at hix] at q'
                have hkil : (k : Int) < (nl : Int) := by omega
                have HST := Lib.hid (among_step (x := y) hix)
                generalize l[k] = u at *
                cases hv : among y l k with
                | true =>
                  have HF := Lib.hid (show among y l (k + 1) = true by rw [HST.out, hv]; rfl)
                  clear hv
                  go_wp2_with fail
                  go_quiet (fail)
                  go_wp2
                  go_roundw
                  case rel => exact ⟨k + 1, by go_num, by omega, by rw [HF.out], Lib.hid ⟨_, rfl⟩⟩
                  case measure => simp [intOf]; omega
                | false =>
                  have HF := Lib.hid (show among y l (k + 1) = (u == y) by rw [HST.out, hv]; rfl)
                  clear hv
                  go_wp2_with fail
                  go_quiet (fail)
                  go_wp2
                  go_roundw
                  case rel => exact ⟨k + 1, by go_num, by omega, by rw [HF.out], Lib.hid ⟨_, rfl⟩⟩
                  case measure => simp [intOf]; omega
              · have hal : among y l k = decide (y ∈ l) := among_all (by rw [HNL.out]; omega)
                obtain ⟨c0, c1, c2⟩ := (HD3.out.on HBr.out).cells
                have HX := Lib.hid (show DocText w3 w.heap.size d b (off + j) y (wq.drewN x0) from DocText.drewN ⟨c0, c1, c2, q, HBr.out⟩ x0)
                rw [hal]
                clear hal
                have hne : (decide (y ∈ l) != decide (y ∈ l)) = false := by simp
                generalize decide (y ∈ l) = p at *
                go_wp2_with fail
                go_region_held3 (fun W => W.cell? ⟨w.heap.size, 0, none⟩ = some (.string ⟨d.id.toArray⟩) ∧ W.cell? ⟨w.heap.size, 1, none⟩ = some (.int .i64 d.time) ∧ W.cell? ⟨w.heap.size, 2, none⟩ = some (.string ⟨d.text.toArray⟩) ∧ W.cell? ⟨b, off + j, none⟩ = some (.string ⟨y.toArray⟩) ∧ Below w3.heap.size w3 W)
                  (first | exact hHeld | exact HX.out | exact HX.out.drewN 1 | exact hX5)
                  (first
                    | (go_at_call 11; (refine (HY1.out _ (HB3.out.trans ((DocText.bel (w0 := w3) (g := w.heap.size) (d := d) (b := b) (o := off + j) (y := y) (by assumption)).mono HB3.out.size))).mono ?_); rintro e w5 ⟨rfl, hb5⟩; have hX5 := DocText.on (w0 := w3) (g := w.heap.size) (d := d) (b := b) (o := off + j) (y := y) (by assumption) hb5))
                all_goals
                  have HBB := Lib.hid (DocText.bel (w0 := w3) (g := w.heap.size) (d := d) (b := b) (o := off + j) (y := y) (by assumption))
                  clear c0 c1 c2 q
                  go_wp2
                  go_roundw
                  case rel => exact ⟨j + 1, by go_num, by omega, HBB⟩
                  case measure => simp [intOf]; omega
          · have HBq := Lib.hid (HB3.out.trans (HBr.out.mono HB3.out.size))
            go_wp2
            go_ret
            exact ⟨rfl, HBq.out⟩
end Go.Proofs.YtkchmbcaihknkaaDoor
