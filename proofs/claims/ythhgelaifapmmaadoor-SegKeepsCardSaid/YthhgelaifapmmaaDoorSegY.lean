/-
  What the document's Terms of entries does, by a contract.
-/
import Derived.Test.YthhgelaifapmmaaDoorSegX
namespace Go.Proofs.YthhgelaifapmmaaDoor.M
/-- the terms of the first i entries -/
def flatTo (ds : List D) (i : Nat) : List T := ((ds.take i).map fun d => terms d.text).flatten
theorem flatTo_next {ds : List D} {i : Nat} (h : i < ds.length) : flatTo ds (i + 1) = flatTo ds i ++ terms ds[i].text := by
  unfold flatTo
  rw [List.take_succ_eq_append_getElem h, List.map_append, List.flatten_append, List.map_cons, List.map_nil, List.flatten_cons, List.flatten_nil, List.append_nil]
theorem flatTo_all (ds : List D) : gather (flatTo ds ds.length) = keys ds := by
  unfold flatTo keys
  rw [List.take_length]
theorem flatTo_len {ds : List D} (h : ∀ d ∈ ds, (terms d.text).length ≤ 1024) : ∀ i, i ≤ ds.length → (flatTo ds i).length ≤ 1024 * i
  | 0, _ => by simp [flatTo]
  | i + 1, hi => by
    have h1 := flatTo_len h i (by omega)
    have h2 := h ds[i] (List.getElem_mem _)
    rw [flatTo_next (by omega), List.length_append]
    omega
end Go.Proofs.YthhgelaifapmmaaDoor.M
namespace Go.Proofs.YthhgelaifapmmaaDoor
open Go.RowKit Mem Go.ChangeShapes Go.Sort
set_option linter.unusedVariables false
set_option maxRecDepth 100000

set_option maxHeartbeats 4000000 in
theorem refTerms_any (A : Option Addr) (n c : Nat) (ds : List M.D) (w : World) (h : RdDocs w w.heap.size A n c ds) (hn : n ≤ 4096) (htx : ∀ d ∈ ds, d.text.length ≤ 512) (hT : Tabs w) :
    Calls Tryd.prog 36 #[.slice A n c] w (SaysN (M.keys ds) w) := by
  have H := Lib.hid h; have HN := Lib.hid h.1; have HTX := Lib.hid htx; have HT := Lib.hid hT
  have hc := h.2.1; have hcm := h.2.2.1
  have HTL := Lib.hid (show ∀ d ∈ ds, (M.terms d.text).length ≤ 1024 from fun d hd => by have h1 := terms_len d.text; have h2 := htx d hd; omega)
  clear h htx hT
  go_enter Tryd.func36, Tryd.ntmps36
  go_wp2
  go_loopw [3, 4] (fun f p wr => ∃ (i m k : Nat) (B : Option Addr), p = .int .i64 i ∧ f = .slice B m k ∧ i ≤ n ∧ Hid (m = (M.gather (M.flatTo ds i)).length) ∧ Hid (RdV wr wr.heap.size B m k (strs (M.gather (M.flatTo ds i)))) ∧ Hid (Below w.heap.size w wr) ∧ Hid (NewA w B)) (fun _ p _ => n - (intOf p).toNat)
  case atStart => exact ⟨0, 0, 0, none, rfl, rfl, Nat.zero_le _, Lib.hid rfl, Lib.hid RdV.none_, Lib.hid (Below.refl _ _), Lib.hid (.inl rfl)⟩
  case round =>
    obtain ⟨i, m, k, B, rfl, rfl, hi, HM, HR, HW, HNW⟩ := hrel
    rename World => wr
    have hmk := HR.out.2.1; have hkm := HR.out.max
    by_cases hlt : i < n
    · have hkx : i < ds.length := by have := HN.out; omega
      obtain ⟨db, off, rfl, hdb, hcells⟩ := H.out.2.2.2 (by omega)
      have q2 := cell_on HW.out (hcells i hkx).2.2
      have hil : (i : Int) < (n : Int) := by omega
      have htl := HTX.out _ (List.getElem_mem hkx)
      have HC := Lib.hid (ref_terms_any ⟨ds[i].text.toArray⟩ wr (by show ds[i].text.length ≤ _; omega) (by show ds[i].text.length ≤ _; omega) (HT.out.below HW.out))
      have hbl2 : ∀ x : List UInt8, bl ⟨x.toArray⟩ = x := fun x => rfl
      simp only [hbl2] at HC
      have HNX := Lib.hid (M.flatTo_next hkx)
      have HFL := Lib.hid (M.flatTo_len HTL.out i (by omega))
      have HT1 := Lib.hid (HTL.out _ (List.getElem_mem hkx))
      clear hcells htl hbl2
      generalize ds[i].text = dtx at *
      generalize M.terms dtx = ts at *
      go_wp2_with fail
      refine HC.out.mono ?_
      rintro e w2 ⟨A2, c2, rfl, hr2, hb2⟩
      obtain ⟨l, hl⟩ : ∃ l, ts.length = l := ⟨_, rfl⟩
      have HL := Lib.hid hl
      rw [hl] at hr2 HT1 ⊢
      have hc2 := hr2.2.1; have hcm2 := hr2.max
      have hl1 := HT1.out
      have HR2 := Lib.hid hr2
      have HS0 := Lib.hid (show m = (M.gather (M.flatTo ds i ++ ts.take 0)).length by simpa using HM.out)
      have HO0 := Lib.hid (show RdV w2 w2.heap.size B m k (strs (M.gather (M.flatTo ds i ++ ts.take 0))) by
        have := (HR.out.below hb2).more hb2.size
        simpa using this)
      have HB2 := Lib.hid (HW.out.trans (hb2.mono HW.out.size))
      clear hr2 hl hb2 HC HM HR
      go_wp2
      go_loopw [3, 6] (fun f p wi => ∃ (j m k : Nat) (B : Option Addr), p = .int .i64 j ∧ f = .slice B m k ∧ j ≤ l ∧ Hid (m = (M.gather (M.flatTo ds i ++ ts.take j)).length) ∧ Hid (RdV wi wi.heap.size B m k (strs (M.gather (M.flatTo ds i ++ ts.take j)))) ∧ Hid (Below w2.heap.size w2 wi) ∧ Hid (NewA w B)) (fun _ p _ => l - (intOf p).toNat)
      case atStart => exact ⟨0, m, k, B, rfl, rfl, Nat.zero_le _, HS0, HO0, Lib.hid (Below.refl _ _), HNW⟩
      case round =>
        obtain ⟨j, m', k', B', rfl, rfl, hj, HMj, HRj, HWj, HNWj⟩ := hrel
        rename World => wi
        have hmk' := HRj.out.2.1; have hkm' := HRj.out.max
        by_cases hlt2 : j < l
        · have hjx : j < ts.length := by rw [HL.out]; exact hlt2
          obtain ⟨tb, off2, rfl, htb, q⟩ := (HR2.out.below HWj.out).at_ hlt2
          rw [strs_at hjx] at q
          have hjl : (j : Int) < (l : Int) := by omega
          have HPUT := Lib.hid (put9_any B' m' k' wi.heap.size (M.gather (M.flatTo ds i ++ ts.take j)) ts[j] wi HRj.out (Nat.le_refl _) (by
            have h1 := HMj.out
            have h2 := gather_len (M.flatTo ds i ++ ts.take j)
            have h3 := HFL.out
            rw [List.length_append, List.length_take] at h2
            omega))
          rw [← gather_snoc, List.append_assoc, ← List.take_succ_eq_append_getElem hjx] at HPUT
          generalize ts[j] = y at *
          go_wp2_with fail
          refine HPUT.out.mono ?_
          rintro e w3 ⟨A3, c3, rfl, hr3, hb3, hn3⟩
          have HNW3 := Lib.hid (HNWj.out.next (Nat.le_trans HB2.out.size HWj.out.size) hn3)
          have HR3 := Lib.hid hr3
          have HB3 := Lib.hid (HWj.out.trans (hb3.mono HWj.out.size))
          clear hr3 hb3 hn3 HPUT
          go_wp2
          go_roundw
          case rel => exact ⟨j + 1, _, c3, A3, by go_num, rfl, by omega, Lib.hid rfl, HR3, HB3, HNW3⟩
          case measure => simp [intOf]; omega
        · obtain rfl : j = l := by omega
          have HE := Lib.hid (show M.flatTo ds i ++ ts.take j = M.flatTo ds (i + 1) by rw [HNX.out, List.take_of_length_le (by rw [HL.out]; exact Nat.le_refl _)])
          rw [HE.out] at HMj HRj
          go_wp2
          go_roundw
          case rel => exact ⟨i + 1, m', k', B', by go_num, rfl, by omega, HMj, HRj, Lib.hid (HB2.out.trans (HWj.out.mono HB2.out.size)), HNWj⟩
          case measure => simp [intOf]; omega
    · obtain rfl : i = n := by omega
      have HE := Lib.hid (show M.gather (M.flatTo ds i) = M.keys ds by rw [HN.out, M.flatTo_all])
      rw [HE.out] at HM HR
      go_wp2
      go_ret
      refine ⟨B, k, by rw [← HM.out]; rfl, by rw [← HM.out]; exact HR.out, HW.out, HNW.out.last (by rw [← HM.out]; exact HR.out)⟩
end Go.Proofs.YthhgelaifapmmaaDoor
