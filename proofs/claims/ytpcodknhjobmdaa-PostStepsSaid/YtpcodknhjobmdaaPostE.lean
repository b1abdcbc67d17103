/-
  What Decode does, the program's and the document's, by contracts.
-/
import Derived.Test.YtpcodknhjobmdaaPostD
namespace Go.Proofs.Ytpcodknhjobmdaa
open Go.RowKit Mem
set_option linter.unusedVariables false
set_option maxRecDepth 100000

def DecTells (r : List Int × Nat × Nat) (w : World) (e : Ending) (w' : World) : Prop := ∃ v, e = .returned (.tuple #[v, .int .i64 (r.2.1 : Int), .int .i64 (r.2.2 : Int)]) ∧ OwnV w' w.heap.size 3 v (ints r.1) ∧ Below w.heap.size w w'
/-- j numbers are read, the last one being 'last'; what is left gives the answer -/
def Took (p : List UInt8) (at_ below : Int) (many j f : Nat) (last : Int) (acc : List Int) : Prop := M.dec p at_ below = M.decs p below (many - j) f (last + 1) acc ∧ acc.length = j ∧ j ≤ f ∧ f ≤ p.length
section
variable {p : List UInt8} {at_ below last : Int} {many j f g t x : Nat} {acc : List Int}
theorem Took.start (h : M.rdAt p at_ = (many, f, 0)) (h2 : ¬ (below < 0 ∨ below < (many : Int))) : Took p at_ below many 0 f (-1) [] := by
  have h3 := M.rdAt_le (l := p) (k := at_) (by rw [h])
  rw [h] at h3
  exact ⟨by rw [M.dec_on (by rw [h]) (by rw [h]; exact h2), h]; rfl, rfl, by omega, by simp only at h3; omega⟩
theorem Took.err (h : Took p at_ below many j f last acc) (hj : j < many) (hr : M.rdAt p f = (g, t, x)) (hx : x ≠ 0) : M.dec p at_ below = ([], 0, x) := by
  rw [h.1, show many - j = (many - j - 1) + 1 from by omega, M.decs_err (by rw [hr]; exact hx), hr]
theorem Took.out (h : Took p at_ below many j f last acc) (hj : j < many) (hr : M.rdAt p f = (g, t, 0)) (hg : below - (last + 1) ≤ (g : Int)) : M.dec p at_ below = ([], 0, 6) := by
  rw [h.1, show many - j = (many - j - 1) + 1 from by omega, M.decs_out (by rw [hr]) (by rw [hr]; exact hg)]
theorem Took.on (h : Took p at_ below many j f last acc) (hj : j < many) (hr : M.rdAt p f = (g, t, 0)) (hg : ¬ below - (last + 1) ≤ (g : Int)) {v v' : Int} (hv : v = last + g + 1) (hv' : v' = last + g + 1) : Took p at_ below many (j + 1) t v (acc ++ [v']) := by
  subst hv hv'
  have h3 := M.rdAt_le (l := p) (k := f) (by rw [hr])
  rw [hr] at h3
  have h1 := h.2.1
  have h2 := h.2.2.1
  simp only [Int.toNat_natCast] at h3
  refine ⟨?_, by simp [h1], by omega, by omega⟩
  rw [h.1, show many - j = (many - j - 1) + 1 from by omega, M.decs_on (by rw [hr]) (by rw [hr]; exact hg), hr]
  simp only
  rw [show many - (j + 1) = many - j - 1 from by omega, show last + 1 + (g : Int) = last + g + 1 from by omega]
theorem Took.end_ (h : Took p at_ below many j f last acc) (hj : ¬ j < many) : M.dec p at_ below = (acc, f, 0) := by
  rw [h.1, show many - j = 0 from by omega, M.decs]
theorem Took.room (h : Took p at_ below many j f last acc) (hj : j < many) (hr : M.rdAt p f = (g, t, 0)) (hroom : many * 8 ≤ 140737488355328 ∨ p.length * 8 ≤ 140737488355328) : (acc.length + 1) * 8 ≤ 140737488355328 := by
  have h3 := M.rdAt_le (l := p) (k := f) (by rw [hr])
  rw [hr] at h3
  have h1 := h.2.1
  have h2 := h.2.2.1
  simp only [Int.toNat_natCast] at h3
  omega
end
theorem rest_wrap {x last : Int} (h : -1 ≤ last) (hx : last < x) (hm : x ≤ 9223372036854775807) : IntKind.u64.wrap (wrap64 (wrap64 (x - last) - 1)) = x - last - 1 := by
  rw [gap_wrap h hx hm]; omega

set_option maxHeartbeats 2000000 in
theorem decode_any (A : Option Addr) (n c : Nat) (p : List UInt8) (at_ below : Int) (w : World) (h : Rd w w.heap.size A n c p) (h1 : -9223372036854775808 ≤ at_) (h2 : at_ ≤ 9223372036854775807)
    (h3 : -9223372036854775808 ≤ below) (h4 : below ≤ 9223372036854775807) (hroom : (M.rdAt p at_).1 * 8 ≤ 140737488355328 ∨ p.length * 8 ≤ 140737488355328) :
    Calls Try.prog 12 #[.slice A n c, .int .i64 at_, .int .i64 below] w (DecTells (M.dec p at_ below) w) := by
  obtain ⟨i0, hi, hz0, hz1, hz2⟩ := Try.info_int
  have HI := Lib.hid hi; have HZ0 := Lib.hid hz0; have HZ1 := Lib.hid hz1; have HZ2 := Lib.hid hz2
  clear hi hz0 hz1 hz2
  have hc := h.cap
  have hm := h.max
  have HR := Lib.hid h
  have HN := Lib.hid h.len
  have HCALL := Lib.hid (readUvarint_any A n c w.heap.size p at_ w h h1 h2)
  have HE := Lib.hid (M.rdAt_err p at_)
  have HD1 := Lib.hid (@M.dec_err p at_ below)
  have HD2 := Lib.hid (@M.dec_out p at_ below)
  have HTS := Lib.hid (fun many f => @Took.start p at_ below many f)
  have HO := Lib.hid (@M.rdAt_le p at_)
  have HOK := Lib.hid (@M.rdAt_ok p at_)
  have HROOM := Lib.hid hroom
  clear h hroom
  generalize M.rdAt p at_ = r at *
  obtain ⟨many, f0, x0⟩ := r
  simp only at HE HD1 HD2 HO HOK HROOM
  by_cases hx0 : x0 = 0
  · subst hx0
    have hv : many < 18446744073709551616 := by
      obtain ⟨_, _, _, _, hv, _⟩ := HOK.out rfl
      simpa using hv
    have hf := HO.out rfl
    have hfn : f0 ≤ n := by have := HN.out; omega
    clear hf
    by_cases hneg : below < 0
    · have HT := Lib.hid (HD2.out rfl (.inl hneg))
      have hq : decide (below < 0) = true := by simpa using hneg
      go_enter Try.func12, Try.ntmps12
      go_wp2_with fail
      refine HCALL.out.mono ?_
      rintro e w1 ⟨rfl, rfl⟩
      go_wp2
      go_ret3
      exact ⟨_, by rw [HT.out]; rfl, by rw [HT.out]; exact OwnV.nil _ _ _, Below.refl _ _⟩
    · have hq : decide (below < 0) = false := by simpa using hneg
      obtain ⟨B, rfl⟩ := Int.eq_ofNat_of_zero_le (show 0 ≤ below by omega)
      by_cases hbig : B < many
      · have HT := Lib.hid (HD2.out rfl (.inr (by omega)))
        go_enter Try.func12, Try.ntmps12
        go_wp2_with fail
        refine HCALL.out.mono ?_
        rintro e w1 ⟨rfl, rfl⟩
        go_wp2
        go_ret3
        exact ⟨_, by rw [HT.out]; rfl, by rw [HT.out]; exact OwnV.nil _ _ _, Below.refl _ _⟩
      · have HT0 := Lib.hid (HTS.out many f0 rfl (by omega))
        go_enter Try.func12, Try.ntmps12
        go_wp2_with fail
        refine HCALL.out.mono ?_
        rintro e w1 ⟨rfl, rfl⟩
        go_wp2
        go_loopw [1, 11, 12, 33] (fun q v s i wr => ∃ (j f : Nat) (last : Int) (acc : List Int), q = .int .i64 f ∧ s = .int .i64 last ∧ i = .int .u64 j ∧ j ≤ many ∧ f ≤ n ∧ -1 ≤ last ∧ last < (B : Int) ∧ Hid (Took p at_ (B : Int) many j f last acc) ∧ Hid (OwnV wr w.heap.size 3 v (ints acc)) ∧ Hid (Below w.heap.size w wr)) (fun _ _ _ i _ => many - (intOf i).toNat)
        case atStart => exact ⟨0, f0, -1, [], rfl, rfl, rfl, by omega, hfn, by omega, by omega, HT0, Lib.hid (OwnV.nil _ _ _), Lib.hid (Below.refl _ _)⟩
        case round =>
          obtain ⟨j, f, last, acc, rfl, rfl, rfl, hj, hf, hl1, hl2, HT, HP, HB⟩ := hrel
          rename World => wr
          by_cases hlt : j < many
          · have HC2 := Lib.hid (readUvarint_any A n c w.heap.size p f wr (HR.out.below HB.out) (by omega) (by omega))
            have HE2 := Lib.hid (fun g t x => @Took.err p at_ (B : Int) last many j f g t x acc HT.out hlt)
            have HO2 := Lib.hid (fun g t => @Took.out p at_ (B : Int) last many j f g t acc HT.out hlt)
            have HS2 := Lib.hid (fun g t hr hg => @Took.on p at_ (B : Int) last many j f g t acc HT.out hlt hr hg (last + ((g : Int) + 1)) (last + ((g : Int) + 1)) (by omega) (by omega))
            have HR2 := Lib.hid (fun g t h => @Took.room p at_ (B : Int) last many j f g t acc HT.out hlt h HROOM.out)
            have HF2 := Lib.hid (@M.rdAt_le p (f : Int))
            have HV2 := Lib.hid (@M.rdAt_ok p (f : Int))
            generalize M.rdAt p (f : Int) = r at *
            obtain ⟨g, t, x⟩ := r
            simp only at HF2 HV2
            by_cases hx : x = 0
            · subst hx
              have hg64 : g < 18446744073709551616 := by
                obtain ⟨_, _, _, _, hv, _⟩ := HV2.out rfl
                simpa using hv
              have htn : t ≤ n := by have h1 := (HF2.out rfl).2.1; have := HN.out; omega
              have HRW := Lib.hid (rest_wrap hl1 hl2 (by omega))
              by_cases hg : (B : Int) - (last + 1) ≤ (g : Int)
              · have HT2 := Lib.hid (HO2.out g t rfl hg)
                have hq : decide (IntKind.u64.wrap (wrap64 (wrap64 ((B : Int) - last) - 1)) ≤ (g : Int)) = true := by rw [HRW.out]; simp; omega
                go_wp2_with fail
                refine HC2.out.mono ?_
                rintro e w2 ⟨rfl, rfl⟩
                go_wp2
                go_ret3
                exact ⟨_, by rw [HT2.out]; rfl, by rw [HT2.out]; exact OwnV.nil _ _ _, HB.out⟩
              · have HT2 := Lib.hid (HS2.out g t rfl hg)
                have HRM := Lib.hid (HR2.out g t rfl)
                have hq : decide (IntKind.u64.wrap (wrap64 (wrap64 ((B : Int) - last) - 1)) ≤ (g : Int)) = false := by rw [HRW.out]; simp; omega
                go_wp2_with fail
                refine HC2.out.mono ?_
                rintro e w2 ⟨rfl, rfl⟩
                go_wp2_with (at_builtin; go_must (refine wpList_appI1 wr rfl (.tmp 57) (.tmp 59) _ rfl w.heap.size _ i0 Try.underlying22 HI.out HZ0.out HZ1.out HZ2.out _ acc HP.out rfl _ rfl HRM.out HB.out.size ?_))
                intro v' w3 hown' hgr
                have HB3 := Lib.hid (HB.out.trans (OwnV.grown HP.out HB.out.size hgr))
                obtain ⟨A3, n3, c3, rfl, HN3, hc3, hm3⟩ := own_form hown'
                have HO3 := Lib.hid hown'
                clear hown' hgr
                go_wp2
                go_roundw
                case rel => exact ⟨j + 1, t, last + ((g : Int) + 1), _, rfl, rfl, by go_num, by omega, htn, by omega, by omega, HT2, HO3, HB3⟩
                case measure => simp [intOf]; omega
            · have HT2 := Lib.hid (HE2.out g t x rfl hx)
              have hbx : ((x : Int) != 0) = true := by rw [bne_iff_ne]; omega
              go_wp2_with fail
              refine HC2.out.mono ?_
              rintro e w2 ⟨rfl, rfl⟩
              go_wp2
              go_ret3
              exact ⟨_, by rw [HT2.out]; rfl, by rw [HT2.out]; exact OwnV.nil _ _ _, HB.out⟩
          · have HT2 := Lib.hid (HT.out.end_ hlt)
            go_wp2
            go_ret3
            exact ⟨_, by rw [HT2.out]; rfl, by rw [HT2.out]; exact HP.out, HB.out⟩
  · have HT := Lib.hid (HD1.out hx0)
    have hbx : ((x0 : Int) != 0) = true := by rw [bne_iff_ne]; omega
    go_enter Try.func12, Try.ntmps12
    go_wp2_with fail
    refine HCALL.out.mono ?_
    rintro e w1 ⟨rfl, rfl⟩
    go_wp2
    go_ret3
    exact ⟨_, by rw [HT.out]; rfl, by rw [HT.out]; exact OwnV.nil _ _ _, Below.refl _ _⟩

set_option maxHeartbeats 2000000 in
theorem ref_decode_any (A : Option Addr) (n c : Nat) (p : List UInt8) (at_ below : Int) (w : World) (h : Rd w w.heap.size A n c p) (h1 : -9223372036854775808 ≤ at_) (h2 : at_ ≤ 9223372036854775807)
    (h3 : -9223372036854775808 ≤ below) (h4 : below ≤ 9223372036854775807) (hroom : (M.rdAt p at_).1 * 8 ≤ 140737488355328 ∨ p.length * 8 ≤ 140737488355328) :
    Calls Try.prog 14 #[.slice A n c, .int .i64 at_, .int .i64 below] w (DecTells (M.dec p at_ below) w) := by
  obtain ⟨i0, hi, hz0, hz1, hz2⟩ := Try.info_int
  have HI := Lib.hid hi; have HZ0 := Lib.hid hz0; have HZ1 := Lib.hid hz1; have HZ2 := Lib.hid hz2
  clear hi hz0 hz1 hz2
  have hc := h.cap
  have hm := h.max
  have HR := Lib.hid h
  have HN := Lib.hid h.len
  have HCALL := Lib.hid (ref_readUvarint_any A n c w.heap.size p at_ w h (Nat.le_refl _) h1 h2)
  have HE := Lib.hid (M.rdAt_err p at_)
  have HD1 := Lib.hid (@M.dec_err p at_ below)
  have HD2 := Lib.hid (@M.dec_out p at_ below)
  have HTS := Lib.hid (fun many f => @Took.start p at_ below many f)
  have HO := Lib.hid (@M.rdAt_le p at_)
  have HOK := Lib.hid (@M.rdAt_ok p at_)
  have HROOM := Lib.hid hroom
  clear h hroom
  generalize M.rdAt p at_ = r at *
  obtain ⟨many, f0, x0⟩ := r
  simp only at HE HD1 HD2 HO HOK HROOM
  by_cases hx0 : x0 = 0
  · subst hx0
    have hv : many < 18446744073709551616 := by
      obtain ⟨_, _, _, _, hv, _⟩ := HOK.out rfl
      simpa using hv
    have hf := HO.out rfl
    have hfn : f0 ≤ n := by have := HN.out; omega
    clear hf
    by_cases hneg : below < 0
    · have HT := Lib.hid (HD2.out rfl (.inl hneg))
      have hq : decide (below < 0) = true := by simpa using hneg
      go_enter Try.func14, Try.ntmps14
      go_wp2_with fail
      refine HCALL.out.mono ?_
      rintro e w1 ⟨rfl, hb1⟩
      go_wp2
      go_ret3
      exact ⟨_, by rw [HT.out]; rfl, by rw [HT.out]; exact OwnV.nil _ _ _, hb1⟩
    · have hq : decide (below < 0) = false := by simpa using hneg
      obtain ⟨B, rfl⟩ := Int.eq_ofNat_of_zero_le (show 0 ≤ below by omega)
      by_cases hbig : B < many
      · have HT := Lib.hid (HD2.out rfl (.inr (by omega)))
        go_enter Try.func14, Try.ntmps14
        go_wp2_with fail
        refine HCALL.out.mono ?_
        rintro e w1 ⟨rfl, hb1⟩
        go_wp2
        go_ret3
        exact ⟨_, by rw [HT.out]; rfl, by rw [HT.out]; exact OwnV.nil _ _ _, hb1⟩
      · have HT0 := Lib.hid (HTS.out many f0 rfl (by omega))
        go_enter Try.func14, Try.ntmps14
        go_wp2_with fail
        refine HCALL.out.mono ?_
        rintro e w1 ⟨rfl, hb1⟩
        go_wp2
        go_loopw [1, 11, 12, 13] (fun q v s i wr => ∃ (j f nx : Nat) (acc : List Int), q = .int .i64 f ∧ s = .int .i64 nx ∧ i = .int .i64 j ∧ j ≤ many ∧ f ≤ n ∧ nx ≤ B ∧ Hid (Took p at_ (B : Int) many j f ((nx : Int) - 1) acc) ∧ Hid (OwnV wr w.heap.size 3 v (ints acc)) ∧ Hid (Below w.heap.size w wr)) (fun _ _ _ i _ => many - (intOf i).toNat)
        case atStart => exact ⟨0, f0, 0, [], rfl, rfl, rfl, by omega, hfn, by omega, HT0, Lib.hid (OwnV.nil _ _ _), Lib.hid hb1⟩
        case round =>
          obtain ⟨j, f, nx, acc, rfl, rfl, rfl, hj, hf, hl2, HT, HP, HB⟩ := hrel
          rename World => wr
          by_cases hlt : j < many
          · have HC2 := Lib.hid (ref_readUvarint_any A n c w.heap.size p f wr (HR.out.below HB.out) HB.out.size (by omega) (by omega))
            have HE2 := Lib.hid (fun g t x => @Took.err p at_ (B : Int) ((nx : Int) - 1) many j f g t x acc HT.out hlt)
            have HO2 := Lib.hid (fun g t => @Took.out p at_ (B : Int) ((nx : Int) - 1) many j f g t acc HT.out hlt)
            have HS2 := Lib.hid (fun g t hr hg => @Took.on p at_ (B : Int) ((nx : Int) - 1) many j f g t acc HT.out hlt hr hg (((nx + (g + 1) : Nat) : Int) - 1) ((nx : Int) + (g : Int)) (by omega) (by omega))
            have HR2 := Lib.hid (fun g t h => @Took.room p at_ (B : Int) ((nx : Int) - 1) many j f g t acc HT.out hlt h HROOM.out)
            have HF2 := Lib.hid (@M.rdAt_le p (f : Int))
            have HV2 := Lib.hid (@M.rdAt_ok p (f : Int))
            generalize M.rdAt p (f : Int) = r at *
            obtain ⟨g, t, x⟩ := r
            simp only at HF2 HV2
            by_cases hx : x = 0
            · subst hx
              have hg64 : g < 18446744073709551616 := by
                obtain ⟨_, _, _, _, hv, _⟩ := HV2.out rfl
                simpa using hv
              have htn : t ≤ n := by have h1 := (HF2.out rfl).2.1; have := HN.out; omega
              by_cases hg : B - nx ≤ g
              · have HT2 := Lib.hid (HO2.out g t rfl (by omega))
                by_cases hnx : nx = B
                · have hq : decide ((B : Int) ≤ (nx : Int)) = true := by simp; omega
                  clear hg
                  go_wp2_with fail
                  refine HC2.out.mono ?_
                  rintro e w2 ⟨rfl, hb2⟩
                  have HB2 := Lib.hid (HB.out.trans (hb2.mono HB.out.size))
                  go_wp2
                  go_ret3
                  exact ⟨_, by rw [HT2.out]; rfl, by rw [HT2.out]; exact OwnV.nil _ _ _, HB2.out⟩
                · have hq : decide ((B : Int) ≤ (nx : Int)) = false := by simp; omega
                  have hgn : B - 1 - nx < g := by omega
                  go_wp2_with fail
                  refine HC2.out.mono ?_
                  rintro e w2 ⟨rfl, hb2⟩
                  have HB2 := Lib.hid (HB.out.trans (hb2.mono HB.out.size))
                  go_wp2
                  all_goals first
                    | (go_ret3; exact ⟨_, by rw [HT2.out]; rfl, by rw [HT2.out]; exact OwnV.nil _ _ _, HB2.out⟩)
                    | trace_state
              · have HT2 := Lib.hid (HS2.out g t rfl (by omega))
                have HRM := Lib.hid (HR2.out g t rfl)
                have hq : decide ((B : Int) ≤ (nx : Int)) = false := by simp; omega
                go_wp2_with fail
                refine HC2.out.mono ?_
                rintro e w2 ⟨rfl, hb2⟩
                have HB2 := Lib.hid (HB.out.trans (hb2.mono HB.out.size))
                have HP2 := Lib.hid (HP.out.below hb2)
                clear hb2
                go_wp2_with (at_builtin; go_must (refine wpList_appI1 w2 rfl (.tmp 63) (.tmp 68) _ rfl w.heap.size _ i0 Try.underlying22 HI.out HZ0.out HZ1.out HZ2.out _ acc HP2.out rfl _ rfl HRM.out HB2.out.size ?_))
                intro v' w3 hown' hgr
                have HB3 := Lib.hid (HB2.out.trans (OwnV.grown HP2.out HB2.out.size hgr))
                obtain ⟨A3, n3, c3, rfl, HN3, hc3, hm3⟩ := own_form hown'
                have HO3 := Lib.hid hown'
                clear hown' hgr
                go_wp2
                go_roundw
                case rel => exact ⟨j + 1, t, nx + (g + 1), _, rfl, by go_num, by go_num, by omega, htn, by omega, HT2, HO3, HB3⟩
                case measure => simp [intOf]; omega
            · have HT2 := Lib.hid (HE2.out g t x rfl hx)
              have hbx : ((x : Int) != 0) = true := by rw [bne_iff_ne]; omega
              go_wp2_with fail
              refine HC2.out.mono ?_
              rintro e w2 ⟨rfl, hb2⟩
              have HB2 := Lib.hid (HB.out.trans (hb2.mono HB.out.size))
              go_wp2
              go_ret3
              exact ⟨_, by rw [HT2.out]; rfl, by rw [HT2.out]; exact OwnV.nil _ _ _, HB2.out⟩
          · have HT2 := Lib.hid (HT.out.end_ hlt)
            go_wp2
            go_ret3
            exact ⟨_, by rw [HT2.out]; rfl, by rw [HT2.out]; exact HP.out, HB.out⟩
  · have HT := Lib.hid (HD1.out hx0)
    have hbx : ((x0 : Int) != 0) = true := by rw [bne_iff_ne]; omega
    go_enter Try.func14, Try.ntmps14
    go_wp2_with fail
    refine HCALL.out.mono ?_
    rintro e w1 ⟨rfl, hb1⟩
    go_wp2
    go_ret3
    exact ⟨_, by rw [HT.out]; rfl, by rw [HT.out]; exact OwnV.nil _ _ _, hb1⟩
end Go.Proofs.Ytpcodknhjobmdaa
