/-
  The law MergeBehind: the walk.
-/
import Derived.Test.YtpnhjcedhcgglaaMergeI
namespace Go.Proofs.Ytpnhjcedhcgglaa
open Go.RowKit Mem
set_option linter.unusedVariables false
set_option maxRecDepth 100000

theorem filter_at {α : Type} (P : α → Bool) (l : List α) (i : Nat) (hi : i < l.length) (hp : P l[i] = true) :
    ∃ h : ((l.take i).filter P).length < (l.filter P).length, (l.filter P)[((l.take i).filter P).length] = l[i] := by
  have e : l.filter P = (l.take i).filter P ++ l[i] :: (l.drop (i + 1)).filter P := by
    have h1 : l = l.take i ++ l[i] :: l.drop (i + 1) := by rw [← List.drop_eq_getElem_cons hi, List.take_append_drop]
    conv => lhs; rw [h1]
    rw [List.filter_append, List.filter_cons_of_pos hp]
  have h1 : ((l.take i).filter P).length < (l.filter P).length := by rw [e]; simp
  refine ⟨h1, ?_⟩
  have : (l.filter P)[((l.take i).filter P).length]? = some l[i] := by rw [e, List.getElem?_append_right (Nat.le_refl _)]; simp
  rw [List.getElem?_eq_getElem h1] at this
  exact Option.some.inj this

set_option maxHeartbeats 4000000 in
theorem mergeBehind_any (A : Option Addr) (n c : Nat) (ds : List M.D) (tm : Int) (id : List UInt8) (w : World) (h : RdDocs w w.heap.size A n c ds) (hn : n * 40 ≤ 140737488355328) :
    Calls Try.prog 4 #[.slice A n c, .int .i64 tm, .string ⟨id.toArray⟩] w (SaysB true w) := by
  have H := Lib.hid h; have HN := Lib.hid h.1
  have hc := h.2.1; have hcm := h.2.2.1
  have HAW := Lib.hid (awake_any w)
  clear h
  obtain ⟨P, hP⟩ : ∃ P, P = M.ahead ⟨id, tm, []⟩ := ⟨_, rfl⟩
  have HBE := Lib.hid (fun (W : World) (hb : Below w.heap.size w W) => behind_any A n c ds tm id W (H.out.on hb) hn)
  rw [← hP] at HBE
  have HAH := Lib.hid (fun (d : M.D) (W : World) => ahead_any ⟨id, tm, []⟩ d W)
  rw [← hP] at HAH
  clear hP
  go_enter Try.func4, Try.ntmps4
  go_wp2_with fail
  refine HAW.out.mono ?_
  rintro e w1 ⟨rfl, hb1⟩
  have HB1 := Lib.hid hb1
  have HBE1 := Lib.hid (HBE.out w1 hb1)
  clear hb1 HAW HBE
  go_wp2_with fail
  refine HBE1.out.mono ?_
  rintro e w2 ⟨v2, rfl, hrow, hb2⟩
  obtain ⟨A2, c2, rfl, hr2⟩ := hrow.open_
  have HB2 := Lib.hid (HB1.out.trans (hb2.mono HB1.out.size))
  have HR2 := Lib.hid hr2
  have hc2 := hr2.2.1; have hcm2 := hr2.2.2.1
  obtain ⟨m2, hm2⟩ : ∃ m2, (ds.filter P).length = m2 := ⟨_, rfl⟩
  have HM2 := Lib.hid hm2
  rw [hm2] at hc2 HR2 ⊢
  have hmn : m2 ≤ n := by rw [← hm2, HN.out]; exact List.length_filter_le _ _
  clear hrow hr2 hb2 HBE1 hm2
  go_wp2
  go_loopw [8, 9] (fun q p wr => ∃ i k : Nat, p = .int .i64 i ∧ q = .int .i64 k ∧ i ≤ n ∧ k ≤ i ∧ Hid (k = ((ds.take i).filter P).length) ∧ Hid (Below w2.heap.size w2 wr)) (fun _ p _ => n - (intOf p).toNat)
  case atStart => exact ⟨0, 0, rfl, rfl, Nat.zero_le _, Nat.le_refl _, Lib.hid (by simp), Lib.hid (Below.refl _ _)⟩
  case round =>
    obtain ⟨i, k, rfl, rfl, hi, hki, HK, HB⟩ := hrel
    rename World => wr
    have HBW := Lib.hid (HB2.out.trans (HB.out.mono HB2.out.size))
    by_cases hlt : i < n
    · have hix : i < ds.length := by have := HN.out; omega
      have hii : (i : Int) < (n : Int) := by omega
      obtain ⟨b, off, rfl, hb, q0, q1, q2⟩ := H.out.at_ hix
      have p0 := cell_on HBW.out q0; have p1 := cell_on HBW.out q1; have p2 := cell_on HBW.out q2
      have HNX := Lib.hid (show ((ds.take (i + 1)).filter P).length = k + if P ds[i] then 1 else 0 by
        rw [List.take_succ_eq_append_getElem hix, List.filter_append, List.length_append, ← HK.out]
        congr 1
        cases h : P ds[i] <;> simp [h])
      have HAT := Lib.hid (show P ds[i] = true → ∃ (h : k < (ds.filter P).length), (ds.filter P)[k] = ds[i] from fun hp => by
        obtain ⟨h1, h2⟩ := filter_at P ds i hix hp
        have e := HK.out
        subst e
        exact ⟨h1, h2⟩)
      have HPX := Lib.hid (fun W => HAH.out ds[i] W)
      have hw1 : IntKind.i64.wrap ((i : Int) + 1) = (i : Int) + 1 := by rw [IntKind.wrap_i64]; omega
      have hw2 : IntKind.i64.wrap ((k : Int) + 1) = (k : Int) + 1 := by rw [IntKind.wrap_i64]; omega
      clear q0 q1 q2
      generalize ds[i] = d at *
      obtain ⟨bo, hbo⟩ : ∃ bo, P d = bo := ⟨_, rfl⟩
      rw [hbo] at HPX HNX HAT
      clear hbo
      cases bo
      · have HK2 := Lib.hid (show k = ((ds.take (i + 1)).filter P).length by rw [HNX.out]; simp)
        obtain ⟨did, dtm, dtx⟩ := d
        unfold dval at HPX
        simp only at HPX p0 p1 p2
        go_wp2_with fail
        refine (HPX.out _).mono ?_
        rintro e w5 ⟨rfl, hb5⟩
        have HB5 := Lib.hid (HB.out.trans (hb5.mono HB.out.size))
        clear hb5
        go_wp2
        first
          | exact ⟨⟨i + 1, k, by go_num, rfl, by omega, by omega, HK2, HB5⟩, by simp [intOf]; omega⟩
          | (go_roundw
             case rel => exact ⟨i + 1, k, by go_num, rfl, by omega, by omega, HK2, HB5⟩
             case measure => simp [intOf]; omega)
      · have HK2 := Lib.hid (show k + 1 = ((ds.take (i + 1)).filter P).length by rw [HNX.out]; simp)
        obtain ⟨hkm, hat⟩ := HAT.out rfl
        have hkm2 : k < m2 := by have := HM2.out; omega
        have hkm3 : (k : Int) < (m2 : Int) := by omega
        have hge : decide ((m2 : Int) ≤ (k : Int)) = false := decide_eq_false (by omega)
        have hgeN : decide (m2 ≤ k) = false := decide_eq_false (by omega)
        obtain ⟨b2, off2, rfl, hbb2, g0, g1, g2⟩ := HR2.out.at_ hkm
        rw [hat] at g0 g1 g2
        obtain ⟨did, dtm, dtx⟩ := d
        unfold dval at HPX
        simp only at HPX p0 p1 p2 g0 g1 g2
        go_wp2_with fail
        refine (HPX.out _).mono ?_
        rintro e w5 ⟨rfl, hb5⟩
        have HB5 := Lib.hid (HB.out.trans (hb5.mono HB.out.size))
        have HV := Lib.hid (show TwoS w2 b2 (off2 + k * 3) b (off + i * 3) ⟨did, dtm, dtx⟩ ⟨did, dtm, dtx⟩ w5.drew from TwoS.drew ⟨cell_on HB5.out g0, cell_on HB5.out g1, cell_on HB5.out g2, cell_on hb5 p0, cell_on hb5 p1, cell_on hb5 p2, HB5.out⟩)
        clear hb5 p0 p1 p2 g0 g1 g2
        go_wp2_with fail
        go_region_held3 (fun W => W.cell? ⟨b2, off2 + k * 3, none⟩ = some (.string ⟨did.toArray⟩) ∧ W.cell? ⟨b2, off2 + k * 3 + 1, none⟩ = some (.int .i64 dtm) ∧ W.cell? ⟨b2, off2 + k * 3 + 2, none⟩ = some (.string ⟨dtx.toArray⟩) ∧
            W.cell? ⟨b, off + i * 3, none⟩ = some (.string ⟨did.toArray⟩) ∧ W.cell? ⟨b, off + i * 3 + 1, none⟩ = some (.int .i64 dtm) ∧ W.cell? ⟨b, off + i * 3 + 2, none⟩ = some (.string ⟨dtx.toArray⟩) ∧ Below w2.heap.size w2 W)
          (first | exact hHeld | exact HV.out | fail) (fail)
        go_wp2
        go_roundw
        case rel => exact ⟨i + 1, k + 1, by go_num, by go_num, by omega, by omega, HK2, Lib.hid (bel_drewN HB5.out 1)⟩
        case measure => simp [intOf]; omega
    · obtain rfl : i = n := by omega
      have hk2 : k = m2 := by
        have e : ds.take i = ds := List.take_of_length_le (by have := HN.out; omega)
        have h1 := HK.out
        rw [e, HM2.out] at h1
        exact h1
      subst hk2
      go_wp2
      go_ret
      exact ⟨by simp, HBW.out⟩
end Go.Proofs.Ytpnhjcedhcgglaa
