/-
  The law SegBuilds, by the contracts.
-/
import Derived.Test.YthhgelaifapmmaaDoorSegHb
namespace Go.Proofs.YthhgelaifapmmaaDoor
open Go.RowKit Mem Go.ChangeShapes Go.Sort
set_option linter.unusedVariables false
set_option maxRecDepth 100000

/-- bytes read as a text, and nothing below has turned -/
def CvS (w1 : World) (v : Value) (T : ByteArray) (W : World) : Prop := (convert 24 9 v).run Tryd.prog W = .ok (.string T) W ∧ Below w1.heap.size w1 W

set_option maxHeartbeats 8000000 in
theorem segBuildsLaw_any (A : Option Addr) (n c : Nat) (ds : List M.D) (w : World) (h : RdDocs w w.heap.size A n c ds) (htm : ∀ d ∈ ds, -9223372036854775808 ≤ d.time ∧ d.time ≤ 9223372036854775807) (hT : Tabs w) :
    Calls Tryd.prog 3 #[.slice A n c] w (SaysB true w) := by
  have H := Lib.hid h; have HN := Lib.hid h.1; have HTM := Lib.hid htm; have HT := Lib.hid hT
  have hc := h.2.1; have hcm := h.2.2.1
  have HAW := Lib.hid (awake9_any w hT)
  have HFO := Lib.hid (fun (W : World) (hb : Below w.heap.size w W) => ref_forms_any A n c ds W (H.out.on hb))
  have HBU := Lib.hid (fun (W : World) (hb : Below w.heap.size w W) => build_any A n c ds W (H.out.on hb) HTM.out (HT.out.below hb))
  clear h htm hT
  go_enter Tryd.func3, Tryd.ntmps3
  go_wp2_with fail
  refine HAW.out.mono ?_
  rintro e w1 ⟨rfl, hb1⟩
  have HB1 := Lib.hid hb1
  clear hb1 HAW
  go_wp2_with fail
  refine (HBU.out _ HB1.out).mono ?_
  rintro e w2 ⟨hb2, hcase⟩
  have HB2 := Lib.hid (HB1.out.trans (hb2.mono HB1.out.size))
  clear HBU
  by_cases h4 : 4096 < n
  · have h4' : (4096 : Int) < (n : Int) := by omega
    have hse : segErr ds = 2 := by unfold segErr; rw [if_pos (by have := HN.out; omega)]
    rw [hse] at hcase
    obtain rfl := hcase.elim (fun h => absurd h.1 (by decide)) (fun h => h.2)
    clear hcase hb2 hse
    go_wp2
    go_ret
    exact ⟨rfl, HB2.out⟩
  · have h4' : ¬ (4096 : Int) < (n : Int) := by omega
    cases hfo : (ds.all fun d => M.formB d.id d.text) with
    | false =>
      have hse : segErr ds = 3 := by unfold segErr; rw [if_neg (by have := HN.out; omega), hfo]; rfl
      rw [hse] at hcase
      rw [hfo] at HFO
      obtain rfl := hcase.elim (fun h => absurd h.1 (by decide)) (fun h => h.2)
      clear hcase hb2 hse hfo
      go_wp2_with fail
      refine (HFO.out _ HB2.out).mono ?_
      rintro e w3 ⟨rfl, hb3⟩
      have HB3 := Lib.hid (HB2.out.trans (hb3.mono HB2.out.size))
      clear hb3
      go_wp2
      go_ret
      exact ⟨rfl, HB3.out⟩
    | true =>
      have hse : segErr ds = 0 := by unfold segErr; rw [if_neg (by have := HN.out; omega), hfo]; rfl
      have HSE := Lib.hid hse
      have HFT := Lib.hid (show ∀ d ∈ ds, Fits d from fun d hd => fits_of ((segErr_ok hse).2 d hd) (HTM.out d hd))
      obtain ⟨v2, rfl, hO2⟩ := hcase.elim (fun h => h.2) (fun h => absurd HSE.out h.1)
      obtain ⟨A2, c2, hv2, hr2⟩ := hO2.open_
      subst hv2
      have HOB := Lib.hid (M.segOpen_bytes ds hse HTM.out)
      have HFW := Lib.hid (fun (hl : ds.length ≤ 60) => segBytes_few (ds := ds) hl HFT.out)
      have HRB := Lib.hid (fun (W : World) (hb : Below w.heap.size w W) => refBuild_any A n c ds W (H.out.on hb) (by omega) HFT.out (HT.out.below hb))
      have HTX := Lib.hid (show ∀ d ∈ ds, d.text.length ≤ 512 from fun d hd => (HFT.out d hd).2.1)
      obtain ⟨p, hp⟩ : ∃ p, M.segBytes ds = p := ⟨_, rfl⟩
      rw [hp] at hr2 HOB HFW HRB ⊢
      obtain ⟨np, hnp⟩ : ∃ np, p.length = np := ⟨_, rfl⟩
      have HNP := Lib.hid hnp
      rw [hnp] at hr2 HFW ⊢
      have hcp := hr2.cap; have hmp := hr2.max
      have HR2 := Lib.hid hr2
      rw [hfo] at HFO
      clear hcase hb2 hse hfo hO2 hr2 hp hnp
      go_wp2_with fail
      refine (HFO.out _ HB2.out).mono ?_
      rintro e w3 ⟨rfl, hb3⟩
      have HB3 := Lib.hid (HB2.out.trans (hb3.mono HB2.out.size))
      have HR3 := Lib.hid ((HR2.out.below hb3).more hb3.size)
      clear hb3 HR2
      by_cases h60 : 60 < n
      · have h60' : (60 : Int) < (n : Int) := by omega
        go_wp2
        go_ret
        exact ⟨rfl, HB3.out⟩
      · have h60' : ¬ (60 : Int) < (n : Int) := by omega
        have hfw := HFW.out (by have := HN.out; omega)
        have HCV := Lib.hid (show ∀ (W : World), Below w3.heap.size w3 W → (convert 24 9 (.slice A2 np c2)).run Tryd.prog W = .ok (.string ⟨p.toArray⟩) W from fun W hW => run_str (P := Tryd.prog) W _ 24 9 5 Tryd.underlying24 Tryd.underlying5 Tryd.underlying9 _ _ _ _ (HR3.out.below hW))
        have HBD := Lib.hid (show Below w3.heap.size w3 w3.drew from ⟨rfl, rfl, rfl, Nat.le_refl _, fun _ _ => rfl⟩)
        have HV := Lib.hid (show CvS w3 (.slice A2 np c2) ⟨p.toArray⟩ w3.drew from ⟨HCV.out _ HBD.out, HBD.out⟩)
        have HVN := Lib.hid (fun (W : World) (hW : Below w3.heap.size w3 W) => show CvS w3 (.slice A2 np c2) ⟨p.toArray⟩ W from ⟨HCV.out _ hW, hW⟩)
        have HR7 := Lib.hid (fun (W : World) (A7 : Option Addr) (c7 : Nat) (hr : Rd W W.heap.size A7 np c7 p) => run_str (P := Tryd.prog) W _ 24 9 5 Tryd.underlying24 Tryd.underlying5 Tryd.underlying9 A7 np c7 p hr)
        obtain ⟨T, hTT⟩ : ∃ T : ByteArray, T = ⟨p.toArray⟩ := ⟨_, rfl⟩
        rw [← hTT] at HV HVN HR7
        clear hTT HCV
        have htt : (T.toList == T.toList) = true := by simp
        go_wp2_with fail
        go_region_held (fun W => (convert 24 9 (.slice A2 np c2)).run Tryd.prog W = .ok (.string T) W ∧ Below w3.heap.size w3 W)
          (first | exact hHeld | exact HV.out | exact hV7)
          (first
            | (go_at_call 13; refine (HRB.out _ (HB3.out.trans (HBD.out.mono HB3.out.size))).mono ?_; rintro e w7 ⟨v7, rfl, hO7, hb7⟩; obtain ⟨A7, c7, hv7, hr7⟩ := hO7.open_; rw [HNP.out] at hv7 hr7; subst hv7; have hcv7 := HR7.out w7 A7 c7 hr7; have hbb7 := HBD.out.trans (hb7.mono HBD.out.size); have hV7 := HVN.out _ hbb7))
        all_goals
          have HB7 := Lib.hid (HB3.out.trans (hbb7.mono HB3.out.size))
          have HOP := Lib.hid (open_any A2 np c2 p w7 ((HR3.out.below hbb7).more hbb7.size) hfw (HT.out.below HB7.out))
          rw [HOB.out] at HOP
          clear hV7 hbb7 hcv7 hb7 hO7 hr7
          go_wp2_with fail
          refine HOP.out.mono ?_
          rintro e w8 ⟨v8, rfl, hb8, -, hg⟩
          obtain ⟨g, rfl, hsg⟩ := hg rfl
          have HB8 := Lib.hid (HB7.out.trans (hb8.mono HB7.out.size))
          have HHO := Lib.hid (holds_any g _ A n c ds w8 hsg (H.out.on HB8.out) (by omega) HTX.out (HT.out.below HB8.out))
          clear hb8 hg hsg HOP
          go_wp2_with fail
          refine HHO.out.mono ?_
          rintro e w9 ⟨rfl, hb9⟩
          have HB9 := Lib.hid (HB8.out.trans (hb9.mono HB8.out.size))
          clear hb9
          go_wp2
          go_ret
          exact ⟨rfl, HB9.out⟩
end Go.Proofs.YthhgelaifapmmaaDoor
