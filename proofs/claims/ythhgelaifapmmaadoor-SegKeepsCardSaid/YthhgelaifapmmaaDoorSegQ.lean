/-
  What seg's answerAlone, answerNot, answerAll, answerOne, answer and Find do, by contracts.
-/
import Derived.Test.YthhgelaifapmmaaDoorSegP
namespace Go.Proofs.YthhgelaifapmmaaDoor
open Go.RowKit Mem Go.ChangeShapes Go.Sort
set_option linter.unusedVariables false
set_option maxRecDepth 100000

/-- what answerAlone reads in a round: a query in block gq, a segment's entries, one of them -/
def AlS (w1 : World) (gq g : Nat) (K : Int) (t : List UInt8) (z : Int) (A : Option Addr) (n c db off m cc k : Nat) (d : M.D) (W : World) : Prop :=
  W.cell? ⟨gq, 0, none⟩ = some (.int .u8 K) ∧ W.cell? ⟨gq, 1, none⟩ = some (.string ⟨t.toArray⟩) ∧ W.cell? ⟨gq, 2, none⟩ = some (.int .i64 z) ∧ W.cell? ⟨gq, 3, none⟩ = some (.slice A n c) ∧
  W.cell? ⟨g, 0, none⟩ = some (.slice (some ⟨db, off, none⟩) m cc) ∧
  W.cell? ⟨db, off + k * 3, none⟩ = some (.string ⟨d.id.toArray⟩) ∧ W.cell? ⟨db, off + k * 3 + 1, none⟩ = some (.int .i64 d.time) ∧ W.cell? ⟨db, off + k * 3 + 2, none⟩ = some (.string ⟨d.text.toArray⟩) ∧ Below w1.heap.size w1 W
section
variable {w1 W W' : World} {gq g : Nat} {K : Int} {t : List UInt8} {z : Int} {A : Option Addr} {n c db off m cc k : Nat} {d : M.D}
theorem AlS.on (h : AlS w1 gq g K t z A n c db off m cc k d W) (hb : Below W.heap.size W W') : AlS w1 gq g K t z A n c db off m cc k d W' :=
  ⟨cell_on hb h.1, cell_on hb h.2.1, cell_on hb h.2.2.1, cell_on hb h.2.2.2.1, cell_on hb h.2.2.2.2.1, cell_on hb h.2.2.2.2.2.1, cell_on hb h.2.2.2.2.2.2.1, cell_on hb h.2.2.2.2.2.2.2.1, h.2.2.2.2.2.2.2.2.trans (hb.mono h.2.2.2.2.2.2.2.2.size)⟩
theorem AlS.drew (h : AlS w1 gq g K t z A n c db off m cc k d W) : AlS w1 gq g K t z A n c db off m cc k d W.drew := ⟨h.1, h.2.1, h.2.2.1, h.2.2.2.1, h.2.2.2.2.1, h.2.2.2.2.2.1, h.2.2.2.2.2.2.1, h.2.2.2.2.2.2.2.1, bel_drewN h.2.2.2.2.2.2.2.2 1⟩
theorem AlS.bel (h : AlS w1 gq g K t z A n c db off m cc k d W) : Below w1.heap.size w1 W := h.2.2.2.2.2.2.2.2
end

theorem take_filter {l : List Int} {i : Nat} {x : Int} (h : l[i]? = some x) (p : Int → Bool) : (l.take (i + 1)).filter p = (l.take i).filter p ++ if p x then [x] else [] := by
  obtain ⟨hi, e⟩ := List.getElem?_eq_some_iff.1 h
  rw [List.take_succ_eq_append_getElem hi, List.filter_append, e]
  congr 1
  cases hp : p x <;> simp [hp]

set_option maxHeartbeats 4000000 in
theorem answerAlone_any (w0 : World) (base g : Nat) (ds : List M.D) (q : Q) (hS : SegAt w0 base g ds) (hq : Q.Ok w0 w0.heap.size q) (hT : Tabs w0) (hl : ds.length ≤ 4096) (htx : ∀ d ∈ ds, d.text.length ≤ 512)
    (B0 : Nat) (v : Value) (l : List Int) (w : World) (hb : Below w0.heap.size w0 w) (hB : B0 ≤ w.heap.size) (ho : OwnV w B0 3 v (ints l)) (hf : Fine ds l) :
    Calls Tryd.prog 66 #[.pointer (some ⟨g, 0, none⟩), q.val, v] w (GivesF B0 w (l.filter (hasAt ds q))) := by
  obtain ⟨i0, hi0, hz0, hz1, hz2⟩ := Tryd.info_int
  have HI := Lib.hid hi0; have HZ0 := Lib.hid hz0; have HZ1 := Lib.hid hz1; have HZ2 := Lib.hid hz2
  clear hi0 hz0 hz1 hz2
  obtain ⟨Av, cv, rfl, hcv, hmv⟩ := ho.form
  have hR := ho.rd
  rw [ints_len] at hR hcv ⊢
  have HLL := Lib.hid (show l.length ≤ 4096 by have := hf.len; omega)
  obtain ⟨n, hn⟩ : ∃ n, l.length = n := ⟨_, rfl⟩
  have HN := Lib.hid hn
  rw [hn] at hR hcv ⊢
  have HR := Lib.hid hR; have HF := Lib.hid hf; have HTX := Lib.hid htx
  have hnl : n ≤ 4096 := by have := HLL.out; omega
  obtain ⟨A, c, b, N, D, h1, -, h3, -⟩ := hS.on hb
  obtain ⟨A', c', hv, hrd⟩ := h3.open_
  injection hv with e1 e2 e3
  subst e1 e3
  have hcap := hrd.2.1; have hcm := hrd.2.2.1
  have HRD := Lib.hid hrd
  have HC0 := Lib.hid (show w.cell? ⟨g, 0, none⟩ = some (.slice A ds.length c) from cellAt 0 h1)
  have HGL := Lib.hid (heapLt h1)
  have HHAS := Lib.hid (fun (d : M.D) (hd : d ∈ ds) (W : World) (hW : Below w.heap.size w W) => has_any q d W (hT.below (hb.trans (hW.mono hb.size))) (by have := htx d hd; omega) ((hq.on (hb.trans (hW.mono hb.size))).more (hb.trans (hW.mono hb.size)).size))
  obtain ⟨P, hP⟩ : ∃ P, P = hasAt ds q := ⟨_, rfl⟩
  have HPE := Lib.hid hP
  rw [← hP]
  clear hS hq hT htx hb hR hf hn hrd h1 h3 ho hP
  obtain ⟨kq, t, z, Aq, nq, cq, ks⟩ := q
  unfold Q.val at HHAS ⊢
  simp only at HHAS ⊢
  obtain ⟨K, hK⟩ : ∃ K : Int, (kq : Int) = K := ⟨_, rfl⟩
  rw [hK] at HHAS ⊢
  obtain ⟨w1, hw1⟩ : ∃ w1, w1 = w.alloc (.cells #[.int .u8 K, .string ⟨t.toArray⟩, .int .i64 z, .slice Aq nq cq] 39) := ⟨_, rfl⟩
  have HB1 := Lib.hid (show Below w.heap.size w w1 by rw [hw1]; exact (Below.refl _ _).alloc (Nat.le_refl _) _)
  have HBX := Lib.hid (show BoxIn w1 w.heap.size K t z Aq nq cq by rw [hw1]; exact BoxIn.new w K t z Aq nq cq)
  clear hK
  go_enter Tryd.func66, Tryd.ntmps66
  go_wp2
  rw [← hw1]
  clear hw1
  go_loopw [7, 12] (fun f p wr => ∃ i : Nat, p = .int .i64 i ∧ i ≤ n ∧ Hid (OwnV wr w1.heap.size 3 f (ints ((l.take i).filter P))) ∧ Hid (Below w1.heap.size w1 wr)) (fun _ p _ => n - (intOf p).toNat)
  case atStart => exact ⟨0, rfl, Nat.zero_le _, Lib.hid (OwnV.nil _ _ _), Lib.hid (Below.refl _ _)⟩
  case round =>
    obtain ⟨i, rfl, hi, HO, HW⟩ := hrel
    rename World => wr
    rename Value => fv
    have HBW := Lib.hid (HB1.out.trans (HW.out.mono HB1.out.size))
    by_cases hlt : i < n
    · obtain ⟨b2, off2, x, rfl, hb2, hcell, -, hx, hmem⟩ := int_at (HR.out.below HBW.out) hlt
      have HX := Lib.hid hx
      have hx1 := HF.out.2 x hmem
      have hx0 := HF.out.nonneg x hmem
      obtain ⟨k, rfl⟩ : ∃ k : Nat, x = (k : Int) := ⟨x.toNat, by omega⟩
      have hkx : k < ds.length := by omega
      obtain ⟨db, off, rfl, hdb, hcells⟩ := HRD.out.2.2.2 (by omega)
      obtain ⟨q0, q1, q2⟩ := hcells k hkx
      obtain ⟨x0, x1, x2, x3⟩ := (HBX.out.on (HW.out)).cells
      have HV := Lib.hid (show AlS w1 w.heap.size g K t z Aq nq cq db off ds.length c k ds[k] wr.drew from AlS.drew ⟨x0, x1, x2, x3, cell_on HBW.out HC0.out, cell_on HBW.out q0, cell_on HBW.out q1, cell_on HBW.out q2, HW.out⟩)
      have HH := Lib.hid (fun W hW => HHAS.out ds[k] (List.getElem_mem hkx) W hW)
      have HPX := Lib.hid (show Q.has ds[k].time (M.terms ds[k].text) (.mk kq t z Aq nq cq ks) = P (k : Int) by rw [HPE.out]; unfold hasAt dAt; simp [hkx])
      rw [HPX.out] at HH
      have HTK := Lib.hid (take_filter HX.out P)
      have HRM := Lib.hid (show (((l.take i).filter P).length + 1) * 8 ≤ 140737488355328 by
        have h1 := List.length_filter_le P (l.take i)
        have h2 := List.length_take_le i l
        omega)
      have hil : (i : Int) < (n : Int) := by omega
      have hkl : (k : Int) < (ds.length : Int) := by omega
      have hk0 : (0 : Int) ≤ (k : Int) := by omega
      clear hcells q0 q1 q2 x0 x1 x2 x3 hx HPX hmem hx0 hx1
      generalize ds[k] = d at *
      obtain ⟨did, dtm, dtx⟩ := d
      unfold dval at HH
      simp only at HH
      obtain ⟨fA, fc, rfl, hfc, hfm⟩ := HO.out.form
      generalize ds.length = m at *
      obtain ⟨bo, hbo⟩ : ∃ bo, P (k : Int) = bo := ⟨_, rfl⟩
      rw [hbo] at HH HTK
      go_wp2_with fail
      go_region_held3 (fun W => W.cell? ⟨w.heap.size, 0, none⟩ = some (.int .u8 K) ∧ W.cell? ⟨w.heap.size, 1, none⟩ = some (.string ⟨t.toArray⟩) ∧ W.cell? ⟨w.heap.size, 2, none⟩ = some (.int .i64 z) ∧ W.cell? ⟨w.heap.size, 3, none⟩ = some (.slice Aq nq cq) ∧
          W.cell? ⟨g, 0, none⟩ = some (.slice (some ⟨db, off, none⟩) m c) ∧
          W.cell? ⟨db, off + k * 3, none⟩ = some (.string ⟨did.toArray⟩) ∧ W.cell? ⟨db, off + k * 3 + 1, none⟩ = some (.int .i64 dtm) ∧ W.cell? ⟨db, off + k * 3 + 2, none⟩ = some (.string ⟨dtx.toArray⟩) ∧ Below w1.heap.size w1 W)
        (first | exact hHeld | exact HV.out | exact hV2)
        (first
          | (go_at_call 77; refine (HH.out _ (HB1.out.trans (HV.out.bel.mono HB1.out.size))).mono ?_; rintro e w2 ⟨rfl, hb2⟩; have hV2 := HV.out.on hb2))
      all_goals
        have HO2 := Lib.hid (OwnV.below HO.out (below_undrewN (n := 1) hb2))
        have HB2 := Lib.hid hV2.bel
        clear hb2 hV2
        cases bo
        · rw [if_neg (by simp), List.append_nil] at HTK
          go_wp2
          go_roundw
          case rel => exact ⟨i + 1, by go_num, by omega, by rw [HTK.out]; exact HO2, HB2⟩
          case measure => simp [intOf]; omega
        · rw [if_pos rfl] at HTK
          go_wp2_with (at_builtin; go_must (refine wpList_appI1 _ rfl (.tmp 25) (.tmp 27) _ rfl w1.heap.size _ i0 Tryd.underlying42 HI.out HZ0.out HZ1.out HZ2.out _ _ HO2.out rfl _ rfl HRM.out HB2.out.size ?_))
          intro v' w3 hown' hgr
          have hb3 := OwnV.grown HO2.out HB2.out.size hgr
          have HB3 := Lib.hid (HB2.out.trans hb3)
          obtain ⟨A3, c3, rfl, hc3, hm3⟩ := hown'.form
          have HO3 := Lib.hid hown'
          clear hown' hgr hb3
          go_wp2
          go_roundw
          case rel => exact ⟨i + 1, by go_num, by omega, by rw [HTK.out]; exact HO3, HB3⟩
          case measure => simp [intOf]; omega
    · obtain rfl : i = n := by omega
      have HE := Lib.hid (show (l.take i).filter P = l.filter P by rw [← HN.out, List.take_length])
      obtain ⟨fA, fc, rfl, hfc, hfm⟩ := HO.out.form
      go_wp2
      go_ret
      exact ⟨_, rfl, by rw [← HE.out]; exact OwnV.less HO.out (Nat.le_trans hB HB1.out.size), HBW.out⟩
end Go.Proofs.YthhgelaifapmmaaDoor
