/-
  merge.Merge and merge.Behind: by contracts.
-/
import Derived.Test.YtpnhjcedhcgglaaMergeG
namespace Go.Proofs.Ytpnhjcedhcgglaa
open Go.RowKit Mem
set_option linter.unusedVariables false
set_option maxRecDepth 100000

/-- the first ones of all and whether there are more; or that a list is not in order -/
def TellsM (rs : List Dr) (lim : Nat) (w : World) (e : Ending) (w' : World) : Prop :=
  Below w.heap.size w w' ∧ (((∃ r ∈ rs, M.risesB r.ds = false) ∧ e = .returned (.tuple #[.slice none 0 0, .bool false, .int .i64 3])) ∨
    ((∀ r ∈ rs, M.risesB r.ds = true) ∧ ∃ v, e = .returned (.tuple #[v, .bool (decide (lim < totD rs)), .int .i64 0]) ∧ DRow w' w.heap.size v ((M.mall M.ahead (lists rs)).take lim)))
theorem totD_next {rs : List Dr} {k : Nat} (hk : k < rs.length) : totD (rs.take (k + 1)) = totD (rs.take k) + rs[k].n := by
  unfold totD
  rw [List.take_succ_eq_append_getElem hk, List.map_append, List.sum_append]
  simp
theorem totD_le (rs : List Dr) (k : Nat) : totD (rs.take k) ≤ totD rs := by have := totD_split rs k; omega

set_option maxHeartbeats 400000 in
theorem merge_neg (A : Option Addr) (n c : Nat) (lim : Int) (w : World) (hl : lim < 0) :
    Calls Try.prog 8 #[.slice A n c, .int .i64 lim] w (fun e w' => e = .returned (.tuple #[.slice none 0 0, .bool false, .int .i64 1]) ∧ w' = w) := by
  go_enter Try.func8, Try.ntmps8
  go_wp2
  go_ret3
  exact ⟨rfl, rfl⟩

set_option maxHeartbeats 4000000 in
theorem merge_any (A : Option Addr) (n c lim : Nat) (rs : List Dr) (w : World) (h : RdLists w w.heap.size A n c rs) (ht : totD rs ≤ 1048576) (hl : lim ≤ 9223372036854775807) :
    Calls Try.prog 8 #[.slice A n c, .int .i64 (lim : Int)] w (TellsM rs lim w) := by
  have hc := h.2.1; have hcm := h.2.2.1
  have H := Lib.hid h; have HN := Lib.hid h.1
  have HT := Lib.hid ht
  have hneg : ¬ (lim : Int) < 0 := by omega
  have HML := Lib.hid (show ((M.mall M.ahead (lists rs)).take lim).length ≤ 4000000 by
    have := totD_len (w := w) (B := w.heap.size) (rs := rs) h.2.2.2.1
    simp only [List.length_take]; omega)
  clear h ht
  go_enter Try.func8, Try.ntmps8
  go_wp2
  go_loopw [7, 14] (fun m p wr => ∃ k t : Nat, p = .int .i64 k ∧ m = .int .i64 t ∧ k ≤ n ∧ t ≤ 1048576 ∧ Hid (t = totD (rs.take k)) ∧ Hid (∀ r ∈ rs.take k, M.risesB r.ds = true) ∧ Hid (Below w.heap.size w wr)) (fun _ p _ => n - (intOf p).toNat)
  case atStart => exact ⟨0, 0, rfl, rfl, Nat.zero_le _, by omega, Lib.hid rfl, Lib.hid (by simp), Lib.hid (Below.refl _ _)⟩
  case round =>
    obtain ⟨k, t, rfl, rfl, hk, ht, HTK, HI, HB⟩ := hrel
    rename World => wr
    by_cases hlt : k < n
    · have hkx : k < rs.length := by have := HN.out; omega
      have hki : (k : Int) < (n : Int) := by omega
      obtain ⟨b, off, rfl, hb, q⟩ := H.out.at_ hkx
      have q0 := cell_on HB.out q
      have HOK := Lib.hid (show RdDocs wr wr.heap.size rs[k].A rs[k].n rs[k].c rs[k].ds from RdDocs.on (H.out.2.2.2.1 rs[k] (List.getElem_mem hkx)) HB.out)
      have HNX := Lib.hid (totD_next hkx)
      have HTL := Lib.hid (totD_le rs (k + 1))
      have HIN := Lib.hid (show M.risesB rs[k].ds = true → ∀ r ∈ rs.take (k + 1), M.risesB r.ds = true from fun e r hr => by
        rw [List.take_succ_eq_append_getElem hkx] at hr
        rcases List.mem_append.1 hr with hr | hr
        · exact HI.out r hr
        · simp only [List.mem_singleton] at hr; rw [hr]; exact e)
      have HBD := Lib.hid (show M.risesB rs[k].ds = false → ∃ r ∈ rs, M.risesB r.ds = false from fun e => ⟨_, List.getElem_mem hkx, e⟩)
      clear q HI
      unfold Dr.v at q0
      generalize rs[k] = r at *
      obtain ⟨Ar, nr, cr, ds⟩ := r
      simp only at q0 HOK HNX HIN HBD
      have HSO := Lib.hid (sorted_any Ar nr cr ds wr HOK.out)
      have ht2 : t + nr ≤ 1048576 := by have h1 := HNX.out; have h2 := HTL.out; have h3 := HTK.out; have h4 := HT.out; omega
      have hw1 : IntKind.i64.wrap ((t : Int) + (nr : Int)) = ((t + nr : Nat) : Int) := by rw [IntKind.wrap_i64]; omega
      have HTK2 := Lib.hid (show t + nr = totD (rs.take (k + 1)) by rw [HNX.out, HTK.out])
      obtain ⟨bo, hbo⟩ : ∃ bo, M.risesB ds = bo := ⟨_, rfl⟩
      rw [hbo] at HSO HIN HBD
      clear hbo HNX HTL HTK
      cases bo
      · have HBD2 := Lib.hid (HBD.out rfl)
        go_wp2_with fail
        refine HSO.out.mono ?_
        rintro e w1 ⟨rfl, hb1⟩
        have HB1 := Lib.hid (HB.out.trans (hb1.mono HB.out.size))
        clear hb1
        go_wp2
        go_ret3
        exact ⟨HB1.out, .inl ⟨HBD2.out, rfl⟩⟩
      · have HIN2 := Lib.hid (HIN.out rfl)
        go_wp2_with fail
        refine HSO.out.mono ?_
        rintro e w1 ⟨rfl, hb1⟩
        have HB1 := Lib.hid (HB.out.trans (hb1.mono HB.out.size))
        clear hb1
        go_wp2
        go_roundw
        case rel => exact ⟨k + 1, t + nr, by go_num, by go_num, by omega, ht2, HTK2, HIN2, HB1⟩
        case measure => simp [intOf]; omega
    · obtain rfl : k = n := by omega
      have HIT := Lib.hid (show (∀ r ∈ rs, M.risesB r.ds = true) ∧ t = totD rs by
        have e : rs.take k = rs := List.take_of_length_le (by have := HN.out; omega)
        have h1 := HI.out; have h2 := HTK.out
        rw [e] at h1 h2
        exact ⟨h1, h2⟩)
      have HAL := Lib.hid (all_any rs.length rs A k c lim wr (Nat.le_refl _) (H.out.on HB.out) HT.out hl)
      generalize hus : (M.mall M.ahead (lists rs)).take lim = us at *
      have HUS := Lib.hid hus
      clear hus HTK HI
      go_wp2_with fail
      refine HAL.out.mono ?_
      rintro e w1 ⟨A1, n1, c1, rfl, hr1, hb1⟩
      have HCL := Lib.hid (clone_any A1 n1 c1 us w1 hr1 (by have h1 := HML.out; have h2 := hr1.1; omega))
      have HB1 := Lib.hid (HB.out.trans (hb1.mono HB.out.size))
      clear hr1 hb1
      go_wp2_with fail
      refine HCL.out.mono ?_
      rintro e w2 ⟨v2, rfl, hrow, hb2⟩
      have HB2 := Lib.hid (HB1.out.trans (hb2.mono HB1.out.size))
      have HR2 := Lib.hid hrow
      clear hrow hb2
      go_wp2
      go_ret3
      refine ⟨HB2.out, .inr ⟨HIT.out.1, v2, ?_, ?_⟩⟩
      · rw [← HIT.out.2]; rfl
      · rw [HUS.out]
        exact HR2.out.less HB1.out.size

set_option maxHeartbeats 4000000 in
theorem behind_any (A : Option Addr) (n c : Nat) (ds : List M.D) (tm : Int) (id : List UInt8) (w : World) (h : RdDocs w w.heap.size A n c ds) (hn : n * 40 ≤ 140737488355328) :
    Calls Try.prog 12 #[.slice A n c, .int .i64 tm, .string ⟨id.toArray⟩] w (TellsRow (ds.filter (M.ahead ⟨id, tm, []⟩)) w) := by
  obtain ⟨i0, hi, hz0, hz1, hz2⟩ := info_of Try.infoDoc
  have HI := Lib.hid hi; have HZ0 := Lib.hid hz0; have HZ1 := Lib.hid hz1; have HZ2 := Lib.hid hz2
  clear hi hz0 hz1 hz2
  have H := Lib.hid h; have HN := Lib.hid h.1
  have hc := h.2.1; have hcm := h.2.2.1
  clear h
  obtain ⟨w1, hw1⟩ : ∃ w1, w1 = w.alloc (.cells #[.string ⟨id.toArray⟩, .int .i64 tm, .string ⟨#[]⟩] 31) := ⟨_, rfl⟩
  have HB1 := Lib.hid (show Below w.heap.size w w1 by rw [hw1]; exact (Below.refl _ _).alloc (Nat.le_refl _) _)
  have HBX := Lib.hid (show DocIn w1 w.heap.size ⟨id, tm, []⟩ by rw [hw1]; exact heap_alloc_new w _)
  obtain ⟨P, hP⟩ : ∃ P, P = M.ahead ⟨id, tm, []⟩ := ⟨_, rfl⟩
  rw [← hP]
  have HP := Lib.hid (show ∀ d, decide (0 < M.order d ⟨id, tm, []⟩) = P d from fun d => by rw [hP, M.order_gt])
  clear hP
  go_enter Try.func12, Try.ntmps12
  go_wp2
  rw [← hw1]
  clear hw1
  go_loopw [8, 16] (fun o p wr => ∃ (k m co : Nat) (Ao : Option Addr) (acc : List M.D), p = .int .i64 k ∧ o = .slice Ao m co ∧ k ≤ n ∧ m ≤ k ∧ Hid (acc.length = m) ∧ Hid (acc = (ds.take k).filter P) ∧ Hid (DInv w1 (.slice Ao m co) acc wr)) (fun _ p _ => n - (intOf p).toNat)
  case atStart => exact ⟨0, 0, 0, none, [], rfl, rfl, Nat.zero_le _, Nat.le_refl _, Lib.hid rfl, Lib.hid (by simp), Lib.hid (DInv.start w1)⟩
  case round =>
    obtain ⟨k, m, co, Ao, acc, rfl, rfl, hk, hmk, HM, HA, HV⟩ := hrel
    rename World => wr
    have HBW := Lib.hid (HB1.out.trans (HV.out.2.mono HB1.out.size))
    by_cases hlt : k < n
    · have hkx : k < ds.length := by have := HN.out; omega
      have hki : (k : Int) < (n : Int) := by omega
      obtain ⟨b, off, rfl, hb, q0, q1, q2⟩ := H.out.at_ hkx
      have p0 := cell_on HBW.out q0; have p1 := cell_on HBW.out q1; have p2 := cell_on HBW.out q2
      have HNX := Lib.hid (show (ds.take (k + 1)).filter P = (ds.take k).filter P ++ if P ds[k] then [ds[k]] else [] by
        rw [List.take_succ_eq_append_getElem hkx, List.filter_append]
        congr 1
        cases h : P ds[k] <;> simp [h])
      clear q0 q1 q2
      generalize ds[k] = d at *
      have HOL := Lib.hid (HP.out d)
      have HOR := Lib.hid (fun W => order_any d ⟨id, tm, []⟩ W)
      obtain ⟨z, hz⟩ : ∃ z, M.order d ⟨id, tm, []⟩ = z := ⟨_, rfl⟩
      obtain ⟨bo, hbo⟩ : ∃ bo, P d = bo := ⟨_, rfl⟩
      rw [hz, hbo] at HOL
      rw [hz] at HOR
      rw [hbo] at HNX
      clear hz hbo
      obtain ⟨did, dtm, dtx⟩ := d
      unfold dval at HOR
      simp only at HOR p0 p1 p2
      obtain ⟨wx, hwx⟩ : ∃ wx, wx = wr.alloc (.cells #[.string ⟨did.toArray⟩, .int .i64 dtm, .string ⟨dtx.toArray⟩] 31) := ⟨_, rfl⟩
      have HBA := Lib.hid (show Below wr.heap.size wr wx by rw [hwx]; exact (Below.refl _ _).alloc (Nat.le_refl _) _)
      have HDA := Lib.hid (show DocIn wx wr.heap.size ⟨did, dtm, dtx⟩ by rw [hwx]; exact heap_alloc_new wr _)
      have HXA := Lib.hid ((HBX.out.on HV.out.2).on HBA.out)
      have HVA := Lib.hid (show DInv w1 (.slice Ao m co) acc wx from ⟨HV.out.1.below HBA.out, HV.out.2.trans (HBA.out.mono HV.out.2.size)⟩)
      obtain ⟨x0, x1, x2⟩ := HXA.out.cells
      obtain ⟨y0, y1, y2⟩ := HDA.out.cells
      rw [hwx] at x0 x1 x2 y0 y1 y2
      simp only at x0 x1 x2 y0 y1 y2
      have hw1 : IntKind.i64.wrap ((k : Int) + 1) = (k : Int) + 1 := by rw [IntKind.wrap_i64]; omega
      cases bo
      · have hz : decide (0 < z) = false := HOL.out
        have HNX2 := Lib.hid (show acc = (ds.take (k + 1)).filter P by have := HNX.out; simp at this; rw [this]; exact HA.out)
        go_wp2_with fail
        rw [← hwx]
        refine (HOR.out _).mono ?_
        rintro e w5 ⟨rfl, hb5⟩
        have HV5 := Lib.hid (show DInv w1 (.slice Ao m co) acc w5 from ⟨HVA.out.1.below hb5, HVA.out.2.trans (hb5.mono HVA.out.2.size)⟩)
        clear hb5
        go_wp2
        go_roundw
        case rel => exact ⟨k + 1, m, co, Ao, acc, by go_num, rfl, by omega, by omega, HM, HNX2, HV5⟩
        case measure => simp [intOf]; omega
      · have hz : decide (0 < z) = true := HOL.out
        have HNX2 := Lib.hid (show acc ++ [(⟨did, dtm, dtx⟩ : M.D)] = (ds.take (k + 1)).filter P by have := HNX.out; simp at this; rw [this, ← HA.out])
        go_wp2_with fail
        rw [← hwx]
        refine (HOR.out _).mono ?_
        rintro e w5 ⟨rfl, hb5⟩
        have HV5 := Lib.hid (show DInv w1 (.slice Ao m co) acc w5 from ⟨HVA.out.1.below hb5, HVA.out.2.trans (hb5.mono HVA.out.2.size)⟩)
        have HD5 := Lib.hid (HDA.out.on hb5)
        obtain ⟨z0, z1, z2⟩ := HD5.out.cells
        simp only at z0 z1 z2
        have HRM := Lib.hid (show World.ownsRow w5 w1.heap.size 31 3 (.slice Ao m co) m (dcells acc) by have := HV5.out.1; unfold DRow at this; rwa [HM.out] at this)
        have hs5 := HV5.out.2.size
        clear hb5
        go_wp2_with (at_builtin; go_must (refine wpList_append_lies _ rfl (.tmp 24) (.tmp 26) _ rfl w1.heap.size 31 i0 _ 3 40 Try.underlying24 HI.out HZ0.out HZ1.out HZ2.out rfl (by omega) (.slice Ao m co) m (dcells acc) rfl (HRM.out.alloc _) ⟨w5.heap.size, 0, none⟩ 1 1 [.string ⟨did.toArray⟩, .int .i64 dtm, .string ⟨dtx.toArray⟩] rfl rfl (World.news_of_block (cs := #[.string ⟨did.toArray⟩, .int .i64 dtm, .string ⟨dtx.toArray⟩]) (t := 31) (fr := (0, 0)) (heap_alloc_new w5 _)) (by simp [Value.oneCell']) (by omega) (by simp only [maxLen]; omega) (by omega) (by simp; omega) (w5.heap.size + 1) (by simp) ?_))
        intro g9 cap9 w9 hown9 hgrow9 hat9 hlt9
        have HV9 := Lib.hid (HV5.out.next (x := ⟨did, dtm, dtx⟩) HM.out hown9 hgrow9)
        have HM9 := Lib.hid (show (acc ++ [(⟨did, dtm, dtx⟩ : M.D)]).length = m + 1 by rw [List.length_append, HM.out]; rfl)
        clear hown9 hgrow9 hat9
        go_wp2
        go_roundw
        case rel => exact ⟨k + 1, m + 1, cap9, _, _, by go_num, rfl, by omega, by omega, HM9, HNX2, HV9⟩
        case measure => simp [intOf]; omega
    · obtain rfl : k = n := by omega
      have HR := Lib.hid (show acc = ds.filter P by
        have e : ds.take k = ds := List.take_of_length_le (by have := HN.out; omega)
        have := HA.out
        rwa [e] at this)
      go_wp2
      go_ret
      refine ⟨_, rfl, ?_, HBW.out⟩
      rw [← HR.out]
      exact HV.out.1.less HB1.out.size
end Go.Proofs.Ytpnhjcedhcgglaa
