/-
  What the document's Find does, by a contract; the law SegFinds.
-/
import Derived.Test.YthhgelaifapmmaaDoorSegT
namespace Go.Proofs.YthhgelaifapmmaaDoor
open Go.RowKit Mem Go.ChangeShapes Go.Sort
set_option linter.unusedVariables false
set_option maxRecDepth 100000

/-- what the document's Find reads in a round: a query in block gq, one of the entries -/
def RfS (w1 : World) (gq : Nat) (K : Int) (t : List UInt8) (z : Int) (A : Option Addr) (n c db off k : Nat) (d : M.D) (W : World) : Prop :=
  W.cell? ⟨gq, 0, none⟩ = some (.int .u8 K) ∧ W.cell? ⟨gq, 1, none⟩ = some (.string ⟨t.toArray⟩) ∧ W.cell? ⟨gq, 2, none⟩ = some (.int .i64 z) ∧ W.cell? ⟨gq, 3, none⟩ = some (.slice A n c) ∧
  W.cell? ⟨db, off + k * 3, none⟩ = some (.string ⟨d.id.toArray⟩) ∧ W.cell? ⟨db, off + k * 3 + 1, none⟩ = some (.int .i64 d.time) ∧ W.cell? ⟨db, off + k * 3 + 2, none⟩ = some (.string ⟨d.text.toArray⟩) ∧ Below w1.heap.size w1 W
section
variable {w1 W W' : World} {gq : Nat} {K : Int} {t : List UInt8} {z : Int} {A : Option Addr} {n c db off k : Nat} {d : M.D}
theorem RfS.on (h : RfS w1 gq K t z A n c db off k d W) (hb : Below W.heap.size W W') : RfS w1 gq K t z A n c db off k d W' :=
  ⟨cell_on hb h.1, cell_on hb h.2.1, cell_on hb h.2.2.1, cell_on hb h.2.2.2.1, cell_on hb h.2.2.2.2.1, cell_on hb h.2.2.2.2.2.1, cell_on hb h.2.2.2.2.2.2.1, h.2.2.2.2.2.2.2.trans (hb.mono h.2.2.2.2.2.2.2.size)⟩
theorem RfS.drew (h : RfS w1 gq K t z A n c db off k d W) : RfS w1 gq K t z A n c db off k d W.drew := ⟨h.1, h.2.1, h.2.2.1, h.2.2.2.1, h.2.2.2.2.1, h.2.2.2.2.2.1, h.2.2.2.2.2.2.1, bel_drewN h.2.2.2.2.2.2.2 1⟩
theorem RfS.bel (h : RfS w1 gq K t z A n c db off k d W) : Below w1.heap.size w1 W := h.2.2.2.2.2.2.2
end
/-- .. a query in block gq alone -/
def FiS (w1 : World) (gq : Nat) (K : Int) (t : List UInt8) (z : Int) (A : Option Addr) (n c : Nat) (W : World) : Prop :=
  W.cell? ⟨gq, 0, none⟩ = some (.int .u8 K) ∧ W.cell? ⟨gq, 1, none⟩ = some (.string ⟨t.toArray⟩) ∧ W.cell? ⟨gq, 2, none⟩ = some (.int .i64 z) ∧ W.cell? ⟨gq, 3, none⟩ = some (.slice A n c) ∧ Below w1.heap.size w1 W
theorem FiS.on {w1 W W' : World} {gq : Nat} {K : Int} {t : List UInt8} {z : Int} {A : Option Addr} {n c : Nat} (h : FiS w1 gq K t z A n c W) (hb : Below W.heap.size W W') : FiS w1 gq K t z A n c W' :=
  ⟨cell_on hb h.1, cell_on hb h.2.1, cell_on hb h.2.2.1, cell_on hb h.2.2.2.1, h.2.2.2.2.trans (hb.mono h.2.2.2.2.size)⟩
theorem allN_next (i : Nat) (p : Int → Bool) : (allN (i + 1)).filter p = (allN i).filter p ++ if p i then [(i : Int)] else [] := by
  unfold allN
  rw [List.range_succ, List.map_append, List.filter_append]
  congr 1
  show List.filter p [(i : Int)] = _
  cases hp : p i <;> simp [hp]

set_option maxHeartbeats 4000000 in
theorem refFind_any (A : Option Addr) (n c : Nat) (ds : List M.D) (q : Q) (w : World) (h : RdDocs w w.heap.size A n c ds) (hn : n ≤ 4096) (htx : ∀ d ∈ ds, d.text.length ≤ 512) (hT : Tabs w) (hq : Q.Ok w w.heap.size q) :
    Calls Tryd.prog 20 #[.slice A n c, q.val] w (GivesI w (finds ds q)) := by
  obtain ⟨i0, hi0, hz0, hz1, hz2⟩ := Tryd.info_int
  have HI := Lib.hid hi0; have HZ0 := Lib.hid hz0; have HZ1 := Lib.hid hz1; have HZ2 := Lib.hid hz2
  clear hi0 hz0 hz1 hz2
  have H := Lib.hid h; have HN := Lib.hid h.1
  have hc := h.2.1; have hcm := h.2.2.1
  have HHAS := Lib.hid (fun (d : M.D) (hd : d ∈ ds) (W : World) (hW : Below w.heap.size w W) => ref_has_any q d W (hT.below hW) (by have := htx d hd; omega) ((hq.on hW).more hW.size))
  have HRES := Lib.hid (show finds ds q = (allN n).filter (hasAt ds q) by rw [h.1]; rfl)
  rw [HRES.out]
  obtain ⟨P, hP⟩ : ∃ P, P = hasAt ds q := ⟨_, rfl⟩
  have HPE := Lib.hid hP
  rw [← hP]
  clear h htx hT hq hP HRES
  obtain ⟨kq, t, z, Aq, nq, cq, ks⟩ := q
  unfold Q.val at HHAS ⊢
  simp only at HHAS ⊢
  obtain ⟨K, hK⟩ : ∃ K : Int, (kq : Int) = K := ⟨_, rfl⟩
  rw [hK] at HHAS ⊢
  obtain ⟨w1, hw1⟩ : ∃ w1, w1 = w.alloc (.cells #[.int .u8 K, .string ⟨t.toArray⟩, .int .i64 z, .slice Aq nq cq] 39) := ⟨_, rfl⟩
  have HB1 := Lib.hid (show Below w.heap.size w w1 by rw [hw1]; exact (Below.refl _ _).alloc (Nat.le_refl _) _)
  have HBX := Lib.hid (show BoxIn w1 w.heap.size K t z Aq nq cq by rw [hw1]; exact BoxIn.new w K t z Aq nq cq)
  clear hK
  go_enter Tryd.func20, Tryd.ntmps20
  go_wp2
  rw [← hw1]
  clear hw1
  go_loopw [5, 6] (fun f p wr => ∃ i : Nat, p = .int .i64 i ∧ i ≤ n ∧ Hid (OwnV wr w1.heap.size 3 f (ints ((allN i).filter P))) ∧ Hid (Below w1.heap.size w1 wr)) (fun _ p _ => n - (intOf p).toNat)
  case atStart => exact ⟨0, rfl, Nat.zero_le _, Lib.hid (OwnV.nil _ _ _), Lib.hid (Below.refl _ _)⟩
  case round =>
    obtain ⟨i, rfl, hi, HO, HW⟩ := hrel
    rename World => wr
    have HBW := Lib.hid (HB1.out.trans (HW.out.mono HB1.out.size))
    by_cases hlt : i < n
    · have hkx : i < ds.length := by have := HN.out; omega
      obtain ⟨db, off, rfl, hdb, hcells⟩ := H.out.2.2.2 (by omega)
      obtain ⟨q0, q1, q2⟩ := hcells i hkx
      obtain ⟨x0, x1, x2, x3⟩ := (HBX.out.on (HW.out)).cells
      have HV := Lib.hid (show RfS w1 w.heap.size K t z Aq nq cq db off i ds[i] wr.drew from RfS.drew ⟨x0, x1, x2, x3, cell_on HBW.out q0, cell_on HBW.out q1, cell_on HBW.out q2, HW.out⟩)
      have HH := Lib.hid (fun W hW => HHAS.out ds[i] (List.getElem_mem hkx) W hW)
      have HPX := Lib.hid (show Q.has ds[i].time (M.terms ds[i].text) (.mk kq t z Aq nq cq ks) = P (i : Int) by rw [HPE.out]; unfold hasAt dAt; simp [hkx])
      rw [HPX.out] at HH
      have HTK := Lib.hid (allN_next i P)
      have HRM := Lib.hid (show (((allN i).filter P).length + 1) * 8 ≤ 140737488355328 by
        have h1 := List.length_filter_le P (allN i)
        have h2 : (allN i).length = i := by simp [allN]
        omega)
      have hil : (i : Int) < (n : Int) := by omega
      clear hcells q0 q1 q2 x0 x1 x2 x3 HPX
      generalize ds[i] = d at *
      obtain ⟨did, dtm, dtx⟩ := d
      unfold dval at HH
      simp only at HH
      obtain ⟨fA, fc, rfl, hfc, hfm⟩ := HO.out.form
      obtain ⟨bo, hbo⟩ : ∃ bo, P (i : Int) = bo := ⟨_, rfl⟩
      rw [hbo] at HH HTK
      go_wp2_with fail
      go_region_held3 (fun W => W.cell? ⟨w.heap.size, 0, none⟩ = some (.int .u8 K) ∧ W.cell? ⟨w.heap.size, 1, none⟩ = some (.string ⟨t.toArray⟩) ∧ W.cell? ⟨w.heap.size, 2, none⟩ = some (.int .i64 z) ∧ W.cell? ⟨w.heap.size, 3, none⟩ = some (.slice Aq nq cq) ∧
          W.cell? ⟨db, off + i * 3, none⟩ = some (.string ⟨did.toArray⟩) ∧ W.cell? ⟨db, off + i * 3 + 1, none⟩ = some (.int .i64 dtm) ∧ W.cell? ⟨db, off + i * 3 + 2, none⟩ = some (.string ⟨dtx.toArray⟩) ∧ Below w1.heap.size w1 W)
        (first | exact hHeld | exact HV.out | exact hV2)
        (first
          | (go_at_call 47; refine (HH.out _ (HB1.out.trans (HV.out.bel.mono HB1.out.size))).mono ?_; rintro e w2 ⟨rfl, hb2⟩; have hV2 := HV.out.on hb2))
      all_goals
        have HO2 := Lib.hid (OwnV.below HO.out (below_undrewN (n := 1) hb2))
        have HB2 := Lib.hid hV2.bel
        clear hb2 hV2
        cases bo
        · rw [if_neg (by simp), List.append_nil] at HTK
          go_wp2
          go_roundw
          case rel => exact ⟨i + 1, by go_num, by omega, by rw [HTK.out]; exact HO2, HB2⟩
          case measure => simp [intOf]; omega
        · rw [if_pos rfl] at HTK
          go_wp2_with (at_builtin; go_must (refine wpList_appI1 _ rfl (.tmp 19) (.tmp 21) _ rfl w1.heap.size _ i0 Tryd.underlying42 HI.out HZ0.out HZ1.out HZ2.out _ _ HO2.out rfl _ rfl HRM.out HB2.out.size ?_))
          intro v' w3 hown' hgr
          have hb3 := OwnV.grown HO2.out HB2.out.size hgr
          have HB3 := Lib.hid (HB2.out.trans hb3)
          obtain ⟨A3, c3, rfl, hc3, hm3⟩ := hown'.form
          have HO3 := Lib.hid hown'
          clear hown' hgr hb3
          go_wp2
          go_roundw
          case rel => exact ⟨i + 1, by go_num, by omega, by rw [HTK.out]; exact HO3, HB3⟩
          case measure => simp [intOf]; omega
    · obtain rfl : i = n := by omega
      obtain ⟨fA, fc, rfl, hfc, hfm⟩ := HO.out.form
      go_wp2
      go_ret
      exact ⟨_, rfl, OwnV.less HO.out HB1.out.size, HBW.out⟩

set_option maxHeartbeats 8000000 in
theorem segFindsLaw_any (A : Option Addr) (n c : Nat) (ds : List M.D) (q : Q) (w : World) (h : RdDocs w w.heap.size A n c ds) (htm : ∀ d ∈ ds, -9223372036854775808 ≤ d.time ∧ d.time ≤ 9223372036854775807) (hT : Tabs w) (hq : Q.Ok w w.heap.size q) (hqt : Q.Short q) :
    Calls Tryd.prog 5 #[.slice A n c, q.val] w (SaysB true w) := by
  have H := Lib.hid h; have HN := Lib.hid h.1; have HTM := Lib.hid htm; have HT := Lib.hid hT
  have hc := h.2.1; have hcm := h.2.2.1
  have HAW := Lib.hid (fun (W : World) (hb : Below w.heap.size w W) => awake9_any W (HT.out.below hb))
  have HFO := Lib.hid (fun (W : World) (hb : Below w.heap.size w W) => ref_forms_any A n c ds W (H.out.on hb))
  have HGR := Lib.hid (fun (W : World) (hb : Below w.heap.size w W) => great_any q W ((hq.on hb).more hb.size))
  have HFI := Lib.hid (fun (g base : Nat) (W : World) (hb : Below w.heap.size w W) (hS : SegAt W base g ds) (hl : ds.length ≤ 4096) (htx : ∀ d ∈ ds, d.text.length ≤ 512) => segFind_any g base ds q W hS (HT.out.below hb) hl htx ((hq.on hb).more hb.size) hqt)
  have HRF := Lib.hid (fun (W : World) (hb : Below w.heap.size w W) (hl : n ≤ 4096) (htx : ∀ d ∈ ds, d.text.length ≤ 512) => refFind_any A n c ds q W (H.out.on hb) hl htx (HT.out.below hb) ((hq.on hb).more hb.size))
  clear h htm hT hq hqt
  generalize finds ds q = fa at *
  obtain ⟨k, t, z, Aq, nq, cq, ks⟩ := q
  unfold Q.val at HGR HFI HRF ⊢
  simp only at HGR HFI HRF ⊢
  obtain ⟨K, hK⟩ : ∃ K : Int, (k : Int) = K := ⟨_, rfl⟩
  rw [hK] at HGR HFI HRF ⊢
  clear hK
  obtain ⟨w1, hw1⟩ : ∃ w1, w1 = w.alloc (.cells #[.int .u8 K, .string ⟨t.toArray⟩, .int .i64 z, .slice Aq nq cq] 39) := ⟨_, rfl⟩
  have HB1 := Lib.hid (show Below w.heap.size w w1 by rw [hw1]; exact (Below.refl _ _).alloc (Nat.le_refl _) _)
  have HBX := Lib.hid (show BoxIn w1 w.heap.size K t z Aq nq cq by rw [hw1]; exact BoxIn.new w K t z Aq nq cq)
  have HW1 := Lib.hid hw1
  clear hw1
  go_enter Tryd.func5, Tryd.ntmps5
  go_wp2_with fail
  rw [← HW1.out]
  refine (HGR.out _ HB1.out).mono ?_
  rintro e w2 ⟨gr, rfl, hb2⟩
  have HBX2 := Lib.hid (HBX.out.on hb2)
  have HB2 := Lib.hid (HB1.out.trans (hb2.mono HB1.out.size))
  clear hb2 HBX HB1 HGR HW1
  cases gr with
  | true =>
    go_wp2_with fail
    refine (HAW.out _ HB2.out).mono ?_
    rintro e w3 ⟨rfl, hb3⟩
    have HB3 := Lib.hid (HB2.out.trans (hb3.mono HB2.out.size))
    clear hb3
    go_wp2
    go_ret
    exact ⟨rfl, HB3.out⟩
  | false =>
    go_wp2_with fail
    refine (HAW.out _ HB2.out).mono ?_
    rintro e w3 ⟨rfl, hb3⟩
    have HBX3 := Lib.hid (HBX2.out.on hb3)
    have HB3 := Lib.hid (HB2.out.trans (hb3.mono HB2.out.size))
    clear hb3 HBX2 HB2
    go_wp2_with fail
    refine (HFO.out _ HB3.out).mono ?_
    rintro e w4 ⟨rfl, hb4⟩
    have HBX4 := Lib.hid (HBX3.out.on hb4)
    have HB4 := Lib.hid (HB3.out.trans (hb4.mono HB3.out.size))
    clear hb4 HBX3 HB3 HFO
    cases hfo : (ds.all fun d => M.formB d.id d.text) with
    | false =>
      go_wp2_with fail
      refine (HAW.out _ HB4.out).mono ?_
      rintro e w5 ⟨rfl, hb5⟩
      have HB5 := Lib.hid (HB4.out.trans (hb5.mono HB4.out.size))
      clear hb5
      go_wp2
      go_ret
      exact ⟨rfl, HB5.out⟩
    | true =>
      by_cases h60 : 60 < n
      · have h60' : (60 : Int) < (n : Int) := by omega
        go_wp2_with fail
        refine (HAW.out _ HB4.out).mono ?_
        rintro e w5 ⟨rfl, hb5⟩
        have HB5 := Lib.hid (HB4.out.trans (hb5.mono HB4.out.size))
        clear hb5
        go_wp2
        go_ret
        exact ⟨rfl, HB5.out⟩
      · have h60' : ¬ (60 : Int) < (n : Int) := by omega
        have hse : segErr ds = 0 := by unfold segErr; rw [if_neg (by have := HN.out; omega), hfo]; rfl
        have HSE := Lib.hid hse
        have HFT := Lib.hid (show ∀ d ∈ ds, Fits d from fun d hd => fits_of ((segErr_ok hse).2 d hd) (HTM.out d hd))
        have HFW := Lib.hid (segBytes_few (ds := ds) (by have := HN.out; omega) HFT.out)
        have HOB := Lib.hid (M.segOpen_bytes ds hse HTM.out)
        have HBU := Lib.hid (build_any A n c ds w4 (H.out.on HB4.out) HTM.out (HT.out.below HB4.out))
        clear hfo hse HAW
        go_wp2_with fail
        refine HBU.out.mono ?_
        rintro e w5 ⟨hb5, hcase⟩
        obtain ⟨v5, rfl, hO5⟩ := hcase.elim (fun h => h.2) (fun h => absurd HSE.out h.1)
        have HBX5 := Lib.hid (HBX4.out.on hb5)
        have HB5 := Lib.hid (HB4.out.trans (hb5.mono HB4.out.size))
        obtain ⟨A5, c5, hv5, hr5⟩ := hO5.open_
        subst hv5
        have HOP := Lib.hid (open_any A5 _ c5 (M.segBytes ds) w5 hr5 HFW.out (HT.out.below HB5.out))
        rw [HOB.out] at HOP
        clear hb5 hcase hO5 hr5 HBU HBX4
        generalize (M.segBytes ds).length = n5 at *
        go_wp2_with fail
        refine HOP.out.mono ?_
        rintro e w6 ⟨v6, rfl, hb6, -, hg⟩
        obtain ⟨g, rfl, hsg⟩ := hg rfl
        have HBX6 := Lib.hid (HBX5.out.on hb6)
        have HB6 := Lib.hid (HB5.out.trans (hb6.mono HB5.out.size))
        have HSG := Lib.hid hsg
        clear hb6 hg hsg HOP HBX5
        have HDL := Lib.hid (show ds.length ≤ 4096 by have := HN.out; omega)
        have HTX := Lib.hid (show ∀ d ∈ ds, d.text.length ≤ 512 from fun d hd => (HFT.out d hd).2.1)
        obtain ⟨x0, x1, x2, x3⟩ := HBX6.out.cells
        have HV6 := Lib.hid (show FiS w6 w.heap.size K t z Aq nq cq w6.drew from ⟨x0, x1, x2, x3, ⟨rfl, rfl, rfl, Nat.le_refl _, fun _ _ => rfl⟩⟩)
        have HBD := Lib.hid (fun (W : World) (hW : Below w6.heap.size w6 W) => HB6.out.trans (hW.mono HB6.out.size))
        have HF1 := Lib.hid (fun (W : World) (hW : Below w6.heap.size w6 W) => HFI.out g _ W (HBD.out _ hW) (HSG.out.on hW) HDL.out HTX.out)
        have HF2 := Lib.hid (fun (W : World) (hW : Below w6.heap.size w6 W) => HRF.out W (HBD.out _ hW) (by omega) HTX.out)
        have HSM := Lib.hid (fun (W : World) (Aa Ab : Option Addr) (ca cb Ba Bb : Nat) (ha : RdV W Ba Aa fa.length ca (ints fa)) (hb : RdV W Bb Ab fa.length cb (ints fa)) => same_any Aa fa.length ca Ba fa Ab fa.length cb Bb fa W ha hb)
        rw [show decide (fa = fa) = true from by simp] at HSM
        clear x0 x1 x2 x3
        go_wp2_with fail
        go_region_held3 (fun W => W.cell? ⟨w.heap.size, 0, none⟩ = some (.int .u8 K) ∧ W.cell? ⟨w.heap.size, 1, none⟩ = some (.string ⟨t.toArray⟩) ∧ W.cell? ⟨w.heap.size, 2, none⟩ = some (.int .i64 z) ∧ W.cell? ⟨w.heap.size, 3, none⟩ = some (.slice Aq nq cq) ∧ Below w6.heap.size w6 W)
          (first | exact hHeld | exact HV6.out | exact hV7 | exact hV8 | exact hV9)
          (first
            | (go_at_call 19; refine (HF1.out _ HV6.out.2.2.2.2).mono ?_; rintro e w7 ⟨v7, rfl, hO7, hb7⟩; obtain ⟨A7, c7, hv7, hc7, hm7⟩ := hO7.form; subst hv7; rw [ints_len] at hc7 ⊢; have hR7 := OwnV.rd hO7; rw [ints_len] at hR7; have hV7 := HV6.out.on hb7)
            | (go_at_call 20; refine (HF2.out _ hV7.2.2.2.2).mono ?_; rintro e w8 ⟨v8, rfl, hO8, hb8⟩; obtain ⟨A8, c8, hv8, hc8, hm8⟩ := hO8.form; subst hv8; rw [ints_len] at hc8 ⊢; have hR8 := OwnV.rd hO8; rw [ints_len] at hR8; have hV8 := hV7.on hb8)
            | (go_at_call 18; refine (HSM.out _ _ _ _ _ _ _ (hR7.below hb8) hR8).mono ?_; rintro e w9 ⟨rfl, hb9⟩; have hV9 := hV8.on hb9))
        all_goals
          have HB9 := Lib.hid (HBD.out _ hV9.2.2.2.2)
          clear hV9 hV8 hV7 hb9 hb8 hb7 hO7 hO8 hR7 hR8
          go_wp2
          go_ret
          exact ⟨rfl, HB9.out⟩
end Go.Proofs.YthhgelaifapmmaaDoor
