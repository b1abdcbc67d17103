/-
  merge's all: by a contract.
-/
import Derived.Test.YtpnhjcedhcgglaaMergeF
namespace Go.Proofs.Ytpnhjcedhcgglaa
open Go.RowKit Mem
set_option linter.unusedVariables false
set_option maxRecDepth 100000

set_option maxHeartbeats 4000000 in
theorem all_any (N : Nat) : ∀ (rs : List Dr) (A : Option Addr) (n c lim : Nat) (w : World), rs.length ≤ N → RdLists w w.heap.size A n c rs → totD rs ≤ 1048576 → lim ≤ 9223372036854775807 →
    Calls Try.prog 17 #[.slice A n c, .int .i64 (lim : Int)] w (TellsRd ((M.mall M.ahead (lists rs)).take lim) w) := by
  induction N with
  | zero =>
    intro rs A n c lim w hN h ht hl
    obtain rfl : rs = [] := List.eq_nil_of_length_eq_zero (by omega)
    obtain rfl : n = 0 := h.1
    have HD := Lib.hid (show (M.mall M.ahead (lists [])).take lim = [] from by simp [lists, M.mall])
    clear h
    go_enter Try.func17, Try.ntmps17
    go_wp2
    go_ret
    rw [HD.out]
    exact ⟨none, 0, 0, rfl, RdDocs.none_, Below.refl _ _⟩
  | succ N ih =>
    intro rs A n c lim w hN h ht hl
    have hc := h.2.1; have hcm := h.2.2.1
    have H := Lib.hid h
    clear h
    rcases Nat.lt_or_ge n 2 with h2 | h2
    · rcases Nat.eq_zero_or_pos n with h0 | h0
      · subst h0
        obtain rfl : rs = [] := List.eq_nil_of_length_eq_zero H.out.1.symm
        have HD := Lib.hid (show (M.mall M.ahead (lists [])).take lim = [] from by simp [lists, M.mall])
        clear ih
        go_enter Try.func17, Try.ntmps17
        go_wp2
        go_ret
        rw [HD.out]
        exact ⟨none, 0, 0, rfl, RdDocs.none_, Below.refl _ _⟩
      · obtain rfl : n = 1 := by omega
        clear ih
        obtain ⟨r, rfl⟩ : ∃ r, rs = [r] := by
          match rs, H.out.1 with
          | [r], _ => exact ⟨r, rfl⟩
        have hrd : RdDocs w w.heap.size r.A r.n r.c r.ds := H.out.2.2.2.1 r (by simp)
        have HR := Lib.hid hrd
        obtain ⟨b, off, rfl, hb, q⟩ := H.out.at_ (i := 0) (by simp)
        have q0 : w.cell? ⟨b, off, none⟩ = some (.slice r.A r.n r.c) := by simpa [Dr.v] using q
        have HV := Lib.hid (show w.drew.cell? ⟨b, off, none⟩ = some (.slice r.A r.n r.c) from q0)
        clear q
        obtain ⟨Ar, nr, cr, ds⟩ := r
        have hcr := hrd.2.1; have hcrm := hrd.2.2.1
        simp only at HV hcr hcrm HR q0
        have HD := Lib.hid (show (M.mall M.ahead (lists [⟨Ar, nr, cr, ds⟩])).take lim = ds.take (min lim nr) from by
          have e := HR.out.1
          simp only [lists, List.map_cons, List.map_nil, M.mall_one]
          rcases Nat.lt_or_ge lim nr with h | h
          · rw [Nat.min_eq_left (by omega)]
          · rw [Nat.min_eq_right h, List.take_of_length_le (by omega), List.take_of_length_le (by omega)])
        have hmin : min (lim : Int) (nr : Int) = ((min lim nr : Nat) : Int) := by omega
        obtain ⟨p, hp⟩ : ∃ p, min lim nr = p := ⟨_, rfl⟩
        rw [hp] at hmin HD
        have hpn : p ≤ nr := by omega
        have hpi : (p : Int) ≤ (nr : Int) := by omega
        have hpc : (p : Int) ≤ (cr : Int) := by omega
        clear hp hrd
        go_enter Try.func17, Try.ntmps17
        go_wp2_with fail
        go_region_held3 (fun W => W.cell? ⟨b, off, none⟩ = some (.slice Ar nr cr))
          (first | exact hHeld | exact HV.out | fail) (fail)
        go_wp2
        go_ret
        rw [HD.out]
        exact ⟨_, _, _, rfl, HR.out.upto hpn, ⟨rfl, rfl, rfl, Nat.le_refl _, fun _ _ => rfl⟩⟩
    · obtain ⟨h, hh⟩ : ∃ h, n / 2 = h := ⟨_, rfl⟩
      have hdiv : (n : Int).tdiv 2 = (h : Int) := by rw [Int.tdiv_eq_ediv_of_nonneg (by omega)]; omega
      have h1 : 0 < h := by omega
      have h3 : h < n := by omega
      have hN' := H.out.1
      have HA1 := Lib.hid (fun (W : World) (hb : Below w.heap.size w W) => ih (rs.take h) A h c lim W (by simp; omega) ((H.out.on hb).upto (by omega)) (by have := totD_split rs h; omega) hl)
      have HA2 := Lib.hid (fun (W : World) (hb : Below w.heap.size w W) => ih (rs.drop h) (A.map (·.add h)) (n - h) (c - h) lim W (by simp; omega) ((H.out.on hb).from_ h3) (by have := totD_split rs h; omega) hl)
      have HSP := Lib.hid (lists_split rs h)
      have HL1 := Lib.hid (totD_len (rs := rs.take h) (fun r hr => (H.out.2.2.2.1 r (List.mem_of_mem_take hr))))
      have HL2 := Lib.hid (totD_len (rs := rs.drop h) (fun r hr => (H.out.2.2.2.1 r (List.mem_of_mem_drop hr))))
      have HTS := Lib.hid (totD_split rs h)
      obtain ⟨b, off, rfl, hb, q⟩ := H.out.at_ (i := 0) (by omega)
      clear q hb H ih hh hN' hN
      have HRES := Lib.hid (show (M.mrg M.ahead ((M.mall M.ahead (lists (rs.take h))).take lim) ((M.mall M.ahead (lists (rs.drop h))).take lim)).take lim = (M.mall M.ahead (lists rs)).take lim by rw [HSP.out, M.mrg_take])
      rw [← HRES.out]
      have HLT := Lib.hid (show ((M.mall M.ahead (lists (rs.take h))).take lim).length + ((M.mall M.ahead (lists (rs.drop h))).take lim).length ≤ 4000000 by
        have e1 := HL1.out; have e2 := HL2.out; have e3 := HTS.out
        simp only [List.length_take]; omega)
      clear HRES HSP HL1 HL2 HTS ht
      generalize (M.mall M.ahead (lists (rs.take h))).take lim = us at *
      generalize (M.mall M.ahead (lists (rs.drop h))).take lim = vs at *
      have HA2' := Lib.hid (show ∀ (W : World), Below w.heap.size w W → Calls Try.prog 17 #[.slice (some ⟨b, off + h, none⟩) (n - h) (c - h), .int .i64 (lim : Int)] W (TellsRd vs W) from fun W hb => by have := HA2.out W hb; simpa [add_none] using this)
      have HB0 := Lib.hid (bel_drewN (Below.refl w.heap.size w) 1)
      have hhn : (h : Int) ≤ (n : Int) := by omega
      have hhn2 : h ≤ n := by omega
      have hhc : h ≤ c := by omega
      have hhc2 : (h : Int) ≤ (c : Int) := by omega
      have hne : ¬ c = h := by omega
      have hge0 : ¬ n = 0 := by omega
      have hge1 : ¬ n = 1 := by omega
      have hi0 : ((n : Int) == 0) = false := by simp; omega
      have hi1 : ((n : Int) == 1) = false := by simp; omega
      clear HA2
      go_enter Try.func17, Try.ntmps17
      go_wp2_with fail
      go_region_held3 (fun W => Below w.heap.size w W)
        (first | exact hHeld | exact HB0.out | exact hB1 | exact hB2 | exact hB3 | fail)
        (first
          | (go_at_call 17; refine (HA2'.out w1 hB1).mono ?_; rintro e w2 ⟨A2, n2, c2, rfl, hr2, hb2⟩; have hB2 := hB1.trans (hb2.mono hB1.size); have hr3 := hr1.on hb2)
          | (go_at_call 17; refine (HA1.out w.drew HB0.out).mono ?_; rintro e w1 ⟨A1, n1, c1, rfl, hr1, hb1⟩; have hB1 := HB0.out.trans (hb1.mono HB0.out.size))
          | (go_at_call 21; refine (two_any A1 n1 c1 A2 n2 c2 lim us vs w2 hr3 hr2 (by have e1 := HLT.out; have e2 := hr3.1; have e3 := hr2.1; omega) hl).mono ?_; rintro e w3 ⟨v3, rfl, hrow, hb3⟩; have hB3 := hB2.trans (hb3.mono hB2.size))
          | fail)
      all_goals
        obtain ⟨A4, c4, rfl, hr4⟩ := hrow.open_
        have HR4 := Lib.hid hr4; have HB4 := Lib.hid hB3
        clear hrow hr4 hr1 hr2 hr3 hb1 hb2 hb3 hB1 hB2 hB3
        go_wp2
        go_ret
        exact ⟨A4, _, c4, rfl, HR4.out, HB4.out⟩
end Go.Proofs.Ytpnhjcedhcgglaa
