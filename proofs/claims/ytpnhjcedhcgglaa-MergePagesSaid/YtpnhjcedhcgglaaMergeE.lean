/-
  merge's two: by a contract.
-/
import Derived.Test.YtpnhjcedhcgglaaMergeD
import Derived.Deep.RegionLaw
namespace Go.Proofs.Ytpnhjcedhcgglaa.M
set_option linter.unusedVariables false
theorem take_end (acc m : List D) (lim : Nat) (h : acc.length ≤ lim) : (acc ++ m).take lim = acc ++ m.take (lim - acc.length) := by
  rw [List.take_append, List.take_of_length_le h]
end Go.Proofs.Ytpnhjcedhcgglaa.M
namespace Go.Proofs.Ytpnhjcedhcgglaa
open Go.RowKit Mem
set_option linter.unusedVariables false
set_option maxRecDepth 100000

def lenV : Value → Nat
  | .slice _ n _ => n
  | _ => 0
theorem lenV_slice (A : Option Addr) (n c : Nat) : lenV (.slice A n c) = n := rfl
def dobj (d : M.D) : Obj := .cells #[.string ⟨d.id.toArray⟩, .int .i64 d.time, .string ⟨d.text.toArray⟩] 31

set_option maxHeartbeats 8000000 in
theorem two_any (A1 : Option Addr) (n1 c1 : Nat) (A2 : Option Addr) (n2 c2 lim : Nat) (xs ys : List M.D) (w : World) (h1 : RdDocs w w.heap.size A1 n1 c1 xs) (h2 : RdDocs w w.heap.size A2 n2 c2 ys) (hn : n1 + n2 ≤ 4000000) (hlim : lim ≤ 9223372036854775807) :
    Calls Try.prog 21 #[.slice A1 n1 c1, .slice A2 n2 c2, .int .i64 (lim : Int)] w (TellsRow ((M.mrg M.ahead xs ys).take lim) w) := by
  obtain ⟨i0, hi, hz0, hz1, hz2⟩ := info_of Try.infoDoc
  have HI := Lib.hid hi; have HZ0 := Lib.hid hz0; have HZ1 := Lib.hid hz1; have HZ2 := Lib.hid hz2
  clear hi hz0 hz1 hz2
  have H1 := Lib.hid h1; have H2 := Lib.hid h2
  have hc1 := h1.2.1; have hcm1 := h1.2.2.1; have hc2 := h2.2.1; have hcm2 := h2.2.2.1
  clear h1 h2
  have HE0 := Lib.hid (show [] ++ M.mrg M.ahead xs ys = M.mrg M.ahead xs ys from rfl)
  have H0 := Lib.hid (DInv.start w)
  go_enter Try.func21, Try.ntmps21
  go_wp2
  go_loopw [0, 1, 7] (fun a b o wr => ∃ (Aa Ab Ao : Option Addr) (na ca nb cb m co : Nat) (us vs acc : List M.D), a = .slice Aa na ca ∧ b = .slice Ab nb cb ∧ o = .slice Ao m co ∧ m ≤ lim ∧ na + nb + m ≤ 4000000 ∧ na ≤ ca ∧ ca ≤ 9223372036854775807 ∧ nb ≤ cb ∧ cb ≤ 9223372036854775807 ∧
      Hid (RdDocs w w.heap.size Aa na ca us) ∧ Hid (RdDocs w w.heap.size Ab nb cb vs) ∧ Hid (acc.length = m) ∧ Hid (acc ++ M.mrg M.ahead us vs = M.mrg M.ahead xs ys) ∧ Hid (DInv w (.slice Ao m co) acc wr)) (fun a b _ _ => lenV a + lenV b)
  case atStart => exact ⟨A1, A2, none, n1, c1, n2, c2, 0, 0, xs, ys, [], rfl, rfl, rfl, Nat.zero_le _, by omega, hc1, hcm1, hc2, hcm2, H1, H2, Lib.hid rfl, HE0, H0⟩
  case round =>
    clear H1 H2 HE0 H0 hn hc1 hcm1 hc2 hcm2
    obtain ⟨Aa, Ab, Ao, na, ca, nb, cb, m, co, us, vs, acc, rfl, rfl, rfl, hm, hsum, hca, hcam, hcb, hcbm, HX, HY, HL, HE, HV⟩ := hrel
    rename World => wr
    obtain ⟨r, hr⟩ : ∃ r, lim = m + r := ⟨lim - m, by omega⟩
    have hwr : IntKind.i64.wrap ((lim : Int) - (m : Int)) = (r : Int) := by rw [IntKind.wrap_i64]; omega
    have HLR := Lib.hid hr
    have HO := Lib.hid (show World.ownsRow wr w.heap.size 31 3 (.slice Ao m co) m (dcells acc) by have := HV.out.1; unfold DRow at this; rwa [HL.out] at this)
    have HBS := Lib.hid HV.out.2
    have hbs : w.heap.size ≤ wr.heap.size := HV.out.2.size
    obtain ⟨hmc, hcom⟩ : m ≤ co ∧ co ≤ 9223372036854775807 := by
      obtain ⟨A', c', e, hrd⟩ := HV.out.form
      injection e with e1 e2 e3
      subst e3
      exact ⟨by have := hrd.2.1; have := HL.out; omega, hrd.2.2.1⟩
    rcases Nat.eq_zero_or_pos r with hr0 | hr0
    · subst hr0
      have hg1 : decide ((m : Int) < (lim : Int)) = false := decide_eq_false (by omega)
      have hg2 : ¬ (m : Int) < (lim : Int) := by omega
      have hmn : ¬ (na : Int) < 0 := by omega
      have hmn2 : ¬ (nb : Int) < 0 := by omega
      have hp : 0 ≤ na := by omega
      have hq : 0 ≤ nb := by omega
      have hw2 : IntKind.i64.wrap ((lim : Int) - ((m : Int) + ((0 : Nat) : Int))) = (0 : Int) := by rw [IntKind.wrap_i64]; omega
      have hmA : min (0 : Int) (na : Int) = (0 : Int) := by omega
      have hmB : min (0 : Int) (nb : Int) = (0 : Int) := by omega
      have hwz : IntKind.i64.wrap ((m : Int) + ((0 : Nat) : Int)) = (m : Int) + ((0 : Nat) : Int) := by rw [IntKind.wrap_i64]; omega
      have HRES := Lib.hid (show acc ++ (us).take 0 ++ (vs).take 0 = (M.mrg M.ahead xs ys).take lim from by
        rw [← HE.out, M.take_end acc _ lim (by have := HL.out; omega), List.append_assoc]
        have e1 := HX.out.1; have e2 := HY.out.1; have e3 := HL.out
        congr 1
        have e4 : lim - acc.length = 0 := by omega
        rw [e4]; simp)
      clear hr HE
      go_wp2_with (at_builtin; go_must (refine wpList_appD _ rfl (.tmp 46) (.tmp 55) _ rfl w.heap.size _ _ i0 _ Try.underlying24 HI.out HZ0.out HZ1.out HZ2.out rfl (.slice Ao m co) m _ HO.out rfl _ _ _ _ ((HX.out.below HBS.out).upto hp) rfl (by omega) HBS.out.size ?_))
      intro v2 w2 hrow2 hg2 hat2
      have hv2 := HV.out.of_row (ys := (us).take 0) (k := m + 0) (by have h1 := HL.out; have h2 := HX.out.1; simp only [List.length_take]; omega) (by have h := hrow2; first | exact h | simpa using h) hg2
      obtain ⟨A2', c2', rfl, hr2⟩ := hv2.form
      have hlk : (acc ++ (us).take 0).length = m + 0 := by have h1 := HL.out; have h2 := HX.out.1; simp only [List.length_append, List.length_take]; omega
      have HLK := Lib.hid hlk
      rw [hlk] at hv2 hr2 hrow2 ⊢
      have hc2 := hr2.2.1; have hcm2 := hr2.2.2.1
      have HV2 := Lib.hid hv2
      have HRM := Lib.hid (show World.ownsRow w2 w.heap.size 31 3 (.slice A2' (m + 0) c2') (m + 0) (dcells (acc ++ (us).take 0)) by have := hv2.1; unfold DRow at this; rwa [hlk] at this)
      clear hrow2 hg2 hat2 hr2 hv2 hlk
      go_wp2_with (at_builtin; go_must (refine wpList_appD _ rfl (.tmp 57) (.tmp 66) _ rfl w.heap.size _ _ i0 _ Try.underlying24 HI.out HZ0.out HZ1.out HZ2.out rfl (.slice A2' (m + 0) c2') (m + 0) _ HRM.out rfl _ _ _ _ ((HY.out.below HV2.out.2).upto hq) rfl (by omega) HV2.out.2.size ?_))
      intro v3 w3 hrow3 hg3 hat3
      have hv3 := HV2.out.of_row (ys := (vs).take 0) (k := m + 0 + 0) (by have h1 := HLK.out; have h2 := HY.out.1; simp only [List.length_take]; omega) (by have h := hrow3; first | exact h | simpa using h) hg3
      have HV3 := Lib.hid hv3
      clear hrow3 hg3 hat3 hv3
      go_wp2
      go_ret
      rw [← HRES.out]
      exact ⟨v3, rfl, HV3.out.1, HV3.out.2⟩
    have hgl : (m : Int) < (lim : Int) := by omega
    have hgr : (0 : Int) < (r : Int) := by omega
    rcases Nat.eq_zero_or_pos na with ha0 | ha0
    · subst ha0
      have hus : us = [] := List.eq_nil_of_length_eq_zero HX.out.1.symm
      subst hus
      rcases Nat.lt_or_ge nb r with hlt | hge
      ·
        have hmn : (nb : Int) < (r : Int) := by omega
        have hp : 0 ≤ 0 := by omega
        have hq : nb ≤ nb := by omega
        have hw2 : IntKind.i64.wrap ((lim : Int) - ((m : Int) + ((0 : Nat) : Int))) = (r : Int) := by rw [IntKind.wrap_i64]; omega
        have hmA : min (r : Int) (0 : Int) = (0 : Int) := by omega
        have hmB : min (r : Int) (nb : Int) = (nb : Int) := by omega
        have hwz : IntKind.i64.wrap ((m : Int) + ((0 : Nat) : Int)) = (m : Int) + ((0 : Nat) : Int) := by rw [IntKind.wrap_i64]; omega
        have HRES := Lib.hid (show acc ++ (([] : List M.D)).take 0 ++ (vs).take nb = (M.mrg M.ahead xs ys).take lim from by
          rw [← HE.out, M.take_end acc _ lim (by have := HL.out; omega), List.append_assoc]
          have e1 := HX.out.1; have e2 := HY.out.1; have e3 := HL.out
          congr 1
          rw [M.mrg_nil, List.take_of_length_le (l := vs) (by omega), List.take_of_length_le (l := vs) (by omega)]; simp)
        clear hr HE
        go_wp2_with (at_builtin; go_must (refine wpList_appD _ rfl (.tmp 46) (.tmp 55) _ rfl w.heap.size _ _ i0 _ Try.underlying24 HI.out HZ0.out HZ1.out HZ2.out rfl (.slice Ao m co) m _ HO.out rfl _ _ _ _ ((HX.out.below HBS.out).upto hp) rfl (by omega) HBS.out.size ?_))
        intro v2 w2 hrow2 hg2 hat2
        have hv2 := HV.out.of_row (ys := (([] : List M.D)).take 0) (k := m + 0) (by have h1 := HL.out; have h2 := HX.out.1; simp only [List.length_take]; omega) (by have h := hrow2; first | exact h | simpa using h) hg2
        obtain ⟨A2', c2', rfl, hr2⟩ := hv2.form
        have hlk : (acc ++ (([] : List M.D)).take 0).length = m + 0 := by have h1 := HL.out; have h2 := HX.out.1; simp only [List.length_append, List.length_take]; omega
        have HLK := Lib.hid hlk
        rw [hlk] at hv2 hr2 hrow2 ⊢
        have hc2 := hr2.2.1; have hcm2 := hr2.2.2.1
        have HV2 := Lib.hid hv2
        have HRM := Lib.hid (show World.ownsRow w2 w.heap.size 31 3 (.slice A2' (m + 0) c2') (m + 0) (dcells (acc ++ (([] : List M.D)).take 0)) by have := hv2.1; unfold DRow at this; rwa [hlk] at this)
        clear hrow2 hg2 hat2 hr2 hv2 hlk
        go_wp2_with (at_builtin; go_must (refine wpList_appD _ rfl (.tmp 57) (.tmp 66) _ rfl w.heap.size _ _ i0 _ Try.underlying24 HI.out HZ0.out HZ1.out HZ2.out rfl (.slice A2' (m + 0) c2') (m + 0) _ HRM.out rfl _ _ _ _ ((HY.out.below HV2.out.2).upto hq) rfl (by omega) HV2.out.2.size ?_))
        intro v3 w3 hrow3 hg3 hat3
        have hv3 := HV2.out.of_row (ys := (vs).take nb) (k := m + 0 + nb) (by have h1 := HLK.out; have h2 := HY.out.1; simp only [List.length_take]; omega) (by have h := hrow3; first | exact h | simpa using h) hg3
        have HV3 := Lib.hid hv3
        clear hrow3 hg3 hat3 hv3
        go_wp2
        go_ret
        rw [← HRES.out]
        exact ⟨v3, rfl, HV3.out.1, HV3.out.2⟩
      ·
        have hmn : ¬ (nb : Int) < (r : Int) := by omega
        have hp : 0 ≤ 0 := by omega
        have hq : r ≤ nb := by omega
        have hw2 : IntKind.i64.wrap ((lim : Int) - ((m : Int) + ((0 : Nat) : Int))) = (r : Int) := by rw [IntKind.wrap_i64]; omega
        have hmA : min (r : Int) (0 : Int) = (0 : Int) := by omega
        have hmB : min (r : Int) (nb : Int) = (r : Int) := by omega
        have hwz : IntKind.i64.wrap ((m : Int) + ((0 : Nat) : Int)) = (m : Int) + ((0 : Nat) : Int) := by rw [IntKind.wrap_i64]; omega
        have HRES := Lib.hid (show acc ++ (([] : List M.D)).take 0 ++ (vs).take r = (M.mrg M.ahead xs ys).take lim from by
          rw [← HE.out, M.take_end acc _ lim (by have := HL.out; omega), List.append_assoc]
          have e1 := HX.out.1; have e2 := HY.out.1; have e3 := HL.out
          congr 1
          have e4 : lim - acc.length = r := by omega
          rw [M.mrg_nil, e4]; simp)
        clear hr HE
        go_wp2_with (at_builtin; go_must (refine wpList_appD _ rfl (.tmp 46) (.tmp 55) _ rfl w.heap.size _ _ i0 _ Try.underlying24 HI.out HZ0.out HZ1.out HZ2.out rfl (.slice Ao m co) m _ HO.out rfl _ _ _ _ ((HX.out.below HBS.out).upto hp) rfl (by omega) HBS.out.size ?_))
        intro v2 w2 hrow2 hg2 hat2
        have hv2 := HV.out.of_row (ys := (([] : List M.D)).take 0) (k := m + 0) (by have h1 := HL.out; have h2 := HX.out.1; simp only [List.length_take]; omega) (by have h := hrow2; first | exact h | simpa using h) hg2
        obtain ⟨A2', c2', rfl, hr2⟩ := hv2.form
        have hlk : (acc ++ (([] : List M.D)).take 0).length = m + 0 := by have h1 := HL.out; have h2 := HX.out.1; simp only [List.length_append, List.length_take]; omega
        have HLK := Lib.hid hlk
        rw [hlk] at hv2 hr2 hrow2 ⊢
        have hc2 := hr2.2.1; have hcm2 := hr2.2.2.1
        have HV2 := Lib.hid hv2
        have HRM := Lib.hid (show World.ownsRow w2 w.heap.size 31 3 (.slice A2' (m + 0) c2') (m + 0) (dcells (acc ++ (([] : List M.D)).take 0)) by have := hv2.1; unfold DRow at this; rwa [hlk] at this)
        clear hrow2 hg2 hat2 hr2 hv2 hlk
        go_wp2_with (at_builtin; go_must (refine wpList_appD _ rfl (.tmp 57) (.tmp 66) _ rfl w.heap.size _ _ i0 _ Try.underlying24 HI.out HZ0.out HZ1.out HZ2.out rfl (.slice A2' (m + 0) c2') (m + 0) _ HRM.out rfl _ _ _ _ ((HY.out.below HV2.out.2).upto hq) rfl (by omega) HV2.out.2.size ?_))
        intro v3 w3 hrow3 hg3 hat3
        have hv3 := HV2.out.of_row (ys := (vs).take r) (k := m + 0 + r) (by have h1 := HLK.out; have h2 := HY.out.1; simp only [List.length_take]; omega) (by have h := hrow3; first | exact h | simpa using h) hg3
        have HV3 := Lib.hid hv3
        clear hrow3 hg3 hat3 hv3
        go_wp2
        go_ret
        rw [← HRES.out]
        exact ⟨v3, rfl, HV3.out.1, HV3.out.2⟩
    rcases Nat.eq_zero_or_pos nb with hb0 | hb0
    · subst hb0
      have hvs : vs = [] := List.eq_nil_of_length_eq_zero HY.out.1.symm
      subst hvs
      have hga : (0 : Int) < (na : Int) := by omega
      rcases Nat.lt_or_ge na r with hlt | hge
      ·
        have hmn : (na : Int) < (r : Int) := by omega
        obtain ⟨s, hs⟩ : ∃ s, r = na + s := ⟨r - na, by omega⟩
        have hp : na ≤ na := by omega
        have hq : 0 ≤ 0 := by omega
        have hw2 : IntKind.i64.wrap ((lim : Int) - ((m : Int) + ((na : Nat) : Int))) = (s : Int) := by rw [IntKind.wrap_i64]; omega
        have hmA : min (r : Int) (na : Int) = (na : Int) := by omega
        have hmB : min (s : Int) (0 : Int) = (0 : Int) := by omega
        have hwz : IntKind.i64.wrap ((m : Int) + ((na : Nat) : Int)) = (m : Int) + ((na : Nat) : Int) := by rw [IntKind.wrap_i64]; omega
        have HRES := Lib.hid (show acc ++ (us).take na ++ (([] : List M.D)).take 0 = (M.mrg M.ahead xs ys).take lim from by
          rw [← HE.out, M.take_end acc _ lim (by have := HL.out; omega), List.append_assoc]
          have e1 := HX.out.1; have e2 := HY.out.1; have e3 := HL.out
          congr 1
          rw [M.mrg_nil2, List.take_of_length_le (l := us) (by omega), List.take_of_length_le (l := us) (by omega)]; simp)
        clear hr HE hs
        go_wp2_with (at_builtin; go_must (refine wpList_appD _ rfl (.tmp 46) (.tmp 55) _ rfl w.heap.size _ _ i0 _ Try.underlying24 HI.out HZ0.out HZ1.out HZ2.out rfl (.slice Ao m co) m _ HO.out rfl _ _ _ _ ((HX.out.below HBS.out).upto hp) rfl (by omega) HBS.out.size ?_))
        intro v2 w2 hrow2 hg2 hat2
        have hv2 := HV.out.of_row (ys := (us).take na) (k := m + na) (by have h1 := HL.out; have h2 := HX.out.1; simp only [List.length_take]; omega) (by have h := hrow2; first | exact h | simpa using h) hg2
        obtain ⟨A2', c2', rfl, hr2⟩ := hv2.form
        have hlk : (acc ++ (us).take na).length = m + na := by have h1 := HL.out; have h2 := HX.out.1; simp only [List.length_append, List.length_take]; omega
        have HLK := Lib.hid hlk
        rw [hlk] at hv2 hr2 hrow2 ⊢
        have hc2 := hr2.2.1; have hcm2 := hr2.2.2.1
        have HV2 := Lib.hid hv2
        have HRM := Lib.hid (show World.ownsRow w2 w.heap.size 31 3 (.slice A2' (m + na) c2') (m + na) (dcells (acc ++ (us).take na)) by have := hv2.1; unfold DRow at this; rwa [hlk] at this)
        clear hrow2 hg2 hat2 hr2 hv2 hlk
        go_wp2_with (at_builtin; go_must (refine wpList_appD _ rfl (.tmp 57) (.tmp 66) _ rfl w.heap.size _ _ i0 _ Try.underlying24 HI.out HZ0.out HZ1.out HZ2.out rfl (.slice A2' (m + na) c2') (m + na) _ HRM.out rfl _ _ _ _ ((HY.out.below HV2.out.2).upto hq) rfl (by omega) HV2.out.2.size ?_))
        intro v3 w3 hrow3 hg3 hat3
        have hv3 := HV2.out.of_row (ys := (([] : List M.D)).take 0) (k := m + na + 0) (by have h1 := HLK.out; have h2 := HY.out.1; simp only [List.length_take]; omega) (by have h := hrow3; first | exact h | simpa using h) hg3
        have HV3 := Lib.hid hv3
        clear hrow3 hg3 hat3 hv3
        go_wp2
        go_ret
        rw [← HRES.out]
        exact ⟨v3, rfl, HV3.out.1, HV3.out.2⟩
      ·
        have hmn : ¬ (na : Int) < (r : Int) := by omega
        have hp : r ≤ na := by omega
        have hq : 0 ≤ 0 := by omega
        have hw2 : IntKind.i64.wrap ((lim : Int) - ((m : Int) + ((r : Nat) : Int))) = (0 : Int) := by rw [IntKind.wrap_i64]; omega
        have hmA : min (r : Int) (na : Int) = (r : Int) := by omega
        have hmB : min (0 : Int) (0 : Int) = (0 : Int) := by omega
        have hwz : IntKind.i64.wrap ((m : Int) + ((r : Nat) : Int)) = (m : Int) + ((r : Nat) : Int) := by rw [IntKind.wrap_i64]; omega
        have HRES := Lib.hid (show acc ++ (us).take r ++ (([] : List M.D)).take 0 = (M.mrg M.ahead xs ys).take lim from by
          rw [← HE.out, M.take_end acc _ lim (by have := HL.out; omega), List.append_assoc]
          have e1 := HX.out.1; have e2 := HY.out.1; have e3 := HL.out
          congr 1
          have e4 : lim - acc.length = r := by omega
          rw [M.mrg_nil2, e4]; simp)
        clear hr HE
        go_wp2_with (at_builtin; go_must (refine wpList_appD _ rfl (.tmp 46) (.tmp 55) _ rfl w.heap.size _ _ i0 _ Try.underlying24 HI.out HZ0.out HZ1.out HZ2.out rfl (.slice Ao m co) m _ HO.out rfl _ _ _ _ ((HX.out.below HBS.out).upto hp) rfl (by omega) HBS.out.size ?_))
        intro v2 w2 hrow2 hg2 hat2
        have hv2 := HV.out.of_row (ys := (us).take r) (k := m + r) (by have h1 := HL.out; have h2 := HX.out.1; simp only [List.length_take]; omega) (by have h := hrow2; first | exact h | simpa using h) hg2
        obtain ⟨A2', c2', rfl, hr2⟩ := hv2.form
        have hlk : (acc ++ (us).take r).length = m + r := by have h1 := HL.out; have h2 := HX.out.1; simp only [List.length_append, List.length_take]; omega
        have HLK := Lib.hid hlk
        rw [hlk] at hv2 hr2 hrow2 ⊢
        have hc2 := hr2.2.1; have hcm2 := hr2.2.2.1
        have HV2 := Lib.hid hv2
        have HRM := Lib.hid (show World.ownsRow w2 w.heap.size 31 3 (.slice A2' (m + r) c2') (m + r) (dcells (acc ++ (us).take r)) by have := hv2.1; unfold DRow at this; rwa [hlk] at this)
        clear hrow2 hg2 hat2 hr2 hv2 hlk
        go_wp2_with (at_builtin; go_must (refine wpList_appD _ rfl (.tmp 57) (.tmp 66) _ rfl w.heap.size _ _ i0 _ Try.underlying24 HI.out HZ0.out HZ1.out HZ2.out rfl (.slice A2' (m + r) c2') (m + r) _ HRM.out rfl _ _ _ _ ((HY.out.below HV2.out.2).upto hq) rfl (by omega) HV2.out.2.size ?_))
        intro v3 w3 hrow3 hg3 hat3
        have hv3 := HV2.out.of_row (ys := (([] : List M.D)).take 0) (k := m + r + 0) (by have h1 := HLK.out; have h2 := HY.out.1; simp only [List.length_take]; omega) (by have h := hrow3; first | exact h | simpa using h) hg3
        have HV3 := Lib.hid hv3
        clear hrow3 hg3 hat3 hv3
        go_wp2
        go_ret
        rw [← HRES.out]
        exact ⟨v3, rfl, HV3.out.1, HV3.out.2⟩
    have hga : (0 : Int) < (na : Int) := by omega
    have hgb : (0 : Int) < (nb : Int) := by omega
    obtain ⟨x, us', rfl⟩ : ∃ x us', us = x :: us' := by
      cases us with
      | nil => have := HX.out.1; simp at this; omega
      | cons x us' => exact ⟨x, us', rfl⟩
    obtain ⟨y, vs', rfl⟩ : ∃ y vs', vs = y :: vs' := by
      cases vs with
      | nil => have := HY.out.1; simp at this; omega
      | cons y vs' => exact ⟨y, vs', rfl⟩
    obtain ⟨ba, oa, rfl, hba, x0, x1, x2⟩ := HX.out.at_ (i := 0) (by simp)
    obtain ⟨bb, ob, rfl, hbb, y0, y1, y2⟩ := HY.out.at_ (i := 0) (by simp)
    rw [Nat.zero_mul, Nat.add_zero] at x0 x1 x2 y0 y1 y2
    have HTW := Lib.hid (show TwoS w ba oa bb ob x y wr.drew from TwoS.drew ⟨cell_on HBS.out x0, cell_on HBS.out x1, cell_on HBS.out x2, cell_on HBS.out y0, cell_on HBS.out y1, cell_on HBS.out y2, HBS.out⟩)
    have HOR := Lib.hid (fun W => order_any x y W)
    have HOL := Lib.hid (M.order_gt x y)
    have HXF := Lib.hid (HX.out.from_ (k := 1) (by omega))
    have HYF := Lib.hid (HY.out.from_ (k := 1) (by omega))
    have HMA := Lib.hid (show M.ahead y x = false → (acc ++ [x]) ++ M.mrg M.ahead us' (y :: vs') = M.mrg M.ahead xs ys from fun e => by rw [← HE.out, M.mrg_a e]; simp)
    have HMB := Lib.hid (show M.ahead y x = true → (acc ++ [y]) ++ M.mrg M.ahead (x :: us') vs' = M.mrg M.ahead xs ys from fun e => by rw [← HE.out, M.mrg_b e]; simp)
    obtain ⟨z, hz⟩ : ∃ z, M.order x y = z := ⟨_, rfl⟩
    obtain ⟨ab, hab⟩ : ∃ ab, M.ahead y x = ab := ⟨_, rfl⟩
    rw [hz] at HOR HOL
    rw [hab] at HOL HMA HMB
    clear hz hab HE hr x0 x1 x2 y0 y1 y2 HLR hwr
    have hmlt : m < lim := by omega
    obtain ⟨i1, t1, x1⟩ := x
    obtain ⟨i2, t2, x2⟩ := y
    unfold dval at HOR
    simp only at HOR
    cases ab
    · have hz : decide (z ≤ 0) = true := by have h : decide (0 < z) = false := HOL.out; simp at h ⊢; exact h
      have HMA' := Lib.hid (HMA.out rfl)
      clear HMA HMB HOL
      go_wp2_with fail
      go_region_held3 (fun W => W.cell? ⟨ba, oa, none⟩ = some (.string ⟨i1.toArray⟩) ∧ W.cell? ⟨ba, oa + 1, none⟩ = some (.int .i64 t1) ∧ W.cell? ⟨ba, oa + 2, none⟩ = some (.string ⟨x1.toArray⟩) ∧
          W.cell? ⟨bb, ob, none⟩ = some (.string ⟨i2.toArray⟩) ∧ W.cell? ⟨bb, ob + 1, none⟩ = some (.int .i64 t2) ∧ W.cell? ⟨bb, ob + 2, none⟩ = some (.string ⟨x2.toArray⟩) ∧ Below w.heap.size w W)
        (first | exact hHeld | exact HTW.out | exact hV2 | fail)
        (first
          | (go_at_call 15; refine (HOR.out _).mono ?_; rintro e w5 ⟨rfl, hb2⟩; have hV2 := HTW.out.on hb2)
          | fail)
      all_goals
        have HV5 := Lib.hid (show DInv w (.slice Ao m co) acc w5 from ⟨HV.out.1.below (below_undrewN (n := 1) hb2), hV2.bel⟩)
        have HB5 := Lib.hid hV2
        have hbs5 := hV2.bel.size
        obtain ⟨p0, p1, p2, q0, q1, q2, _⟩ := hV2
        clear hb2
        have HOND := Lib.hid (show World.ownsRow (w5.alloc (.cells #[.string ⟨i1.toArray⟩, .int .i64 t1, .string ⟨x1.toArray⟩] 31)).drew w.heap.size 31 3 (.slice Ao m co) m (dcells acc) by
          have h := HV5.out.1
          unfold DRow at h
          rw [HL.out] at h
          exact World.ownsRow.alloc h _)
        by_cases hc1 : ca = 1
        · subst hc1
          obtain rfl : na = 1 := by omega
          clear p0 p1 p2 q0 q1 q2
          obtain ⟨p0, p1, p2, q0, q1, q2, _⟩ := HB5.out
          go_wp2_with fail
          go_region_law (first
            | (refine step_append_lies _ (by rfl) _ _ _ (by rfl) w.heap.size 31 i0 _ 3 40 Try.underlying24 HI.out HZ0.out HZ1.out HZ2.out rfl (by omega) (.slice Ao m co) m (dcells acc) (by rfl) HOND.out ⟨w5.heap.size, 0, none⟩ 1 1 [.string ⟨i1.toArray⟩, .int .i64 t1, .string ⟨x1.toArray⟩] (by rfl) (by rfl) (World.news_of_block (cs := #[.string ⟨i1.toArray⟩, .int .i64 t1, .string ⟨x1.toArray⟩]) (t := 31) (fr := (0, 0)) (heap_alloc_new w5 _)) (by simp [Value.oneCell']) (by omega) (by simp only [maxLen]; omega) (by omega) (by simp; omega) (w5.heap.size + 1) (by simp) ?_; intro g8 cap8 w8 hown8 hgrow8 hat8 hlt8)
            | fail)
          all_goals
            have HV8 := Lib.hid (HV5.out.next (x := ⟨i1, t1, x1⟩) (o := .cells #[.string ⟨i1.toArray⟩, .int .i64 t1, .string ⟨x1.toArray⟩] 31) HL.out hown8 ⟨hgrow8.os, hgrow8.tape, hgrow8.output, hgrow8.size, hgrow8.block⟩)
            have HL8 := Lib.hid (show (acc ++ [(⟨i1, t1, x1⟩ : M.D)]).length = m + 1 by rw [List.length_append, HL.out]; rfl)
            clear hown8 hgrow8 hat8
            go_wp2
            refine ⟨?_, ?_⟩
            · iterate 41 apply Exists.intro
              exact ⟨⟨some ⟨ba, oa, none⟩, _, _, 0, 0, nb, cb, m + 1, cap8, _, _, _, rfl, rfl, rfl, by omega, by omega, by omega, by omega, by omega, by omega, Lib.hid (by simpa using HXF.out), HY, HL8, HMA', HV8⟩, rfl⟩
            · show 0 + nb < 1 + nb; omega
        · have hc2 : 1 < ca := by omega
          have hc3 : 1 ≤ na := by omega
          have hc4 : (1 : Int) ≤ (na : Int) := by omega
          have hc5 : 1 ≤ ca := by omega
          have hc6 : (1 : Int) ≤ (ca : Int) := by omega
          go_wp2_with fail
          go_region_law (first
            | (refine step_append_lies _ (by rfl) _ _ _ (by rfl) w.heap.size 31 i0 _ 3 40 Try.underlying24 HI.out HZ0.out HZ1.out HZ2.out rfl (by omega) (.slice Ao m co) m (dcells acc) (by rfl) HOND.out ⟨w5.heap.size, 0, none⟩ 1 1 [.string ⟨i1.toArray⟩, .int .i64 t1, .string ⟨x1.toArray⟩] (by rfl) (by rfl) (World.news_of_block (cs := #[.string ⟨i1.toArray⟩, .int .i64 t1, .string ⟨x1.toArray⟩]) (t := 31) (fr := (0, 0)) (heap_alloc_new w5 _)) (by simp [Value.oneCell']) (by omega) (by simp only [maxLen]; omega) (by omega) (by simp; omega) (w5.heap.size + 1) (by simp) ?_; intro g8 cap8 w8 hown8 hgrow8 hat8 hlt8)
            | fail)
          all_goals
            have HV8 := Lib.hid (HV5.out.next (x := ⟨i1, t1, x1⟩) (o := .cells #[.string ⟨i1.toArray⟩, .int .i64 t1, .string ⟨x1.toArray⟩] 31) HL.out hown8 ⟨hgrow8.os, hgrow8.tape, hgrow8.output, hgrow8.size, hgrow8.block⟩)
            have HL8 := Lib.hid (show (acc ++ [(⟨i1, t1, x1⟩ : M.D)]).length = m + 1 by rw [List.length_append, HL.out]; rfl)
            clear hown8 hgrow8 hat8
            go_wp2
            refine ⟨?_, ?_⟩
            · iterate 41 apply Exists.intro
              exact ⟨⟨some ⟨ba, oa + 3, none⟩, _, _, na - 1, ca - 1, nb, cb, m + 1, cap8, _, _, _, rfl, rfl, rfl, by omega, by omega, by omega, by omega, by omega, by omega, Lib.hid (by have h := HXF.out; rw [if_neg hc1] at h; simpa [add_none] using h), HY, HL8, HMA', HV8⟩, rfl⟩
            · show (na - 1) + nb < na + nb; omega
    · have hz : decide (z ≤ 0) = false := by have h : decide (0 < z) = true := HOL.out; simp at h ⊢; exact h
      have HMB' := Lib.hid (HMB.out rfl)
      clear HMA HMB HOL
      go_wp2_with fail
      go_region_held3 (fun W => W.cell? ⟨ba, oa, none⟩ = some (.string ⟨i1.toArray⟩) ∧ W.cell? ⟨ba, oa + 1, none⟩ = some (.int .i64 t1) ∧ W.cell? ⟨ba, oa + 2, none⟩ = some (.string ⟨x1.toArray⟩) ∧
          W.cell? ⟨bb, ob, none⟩ = some (.string ⟨i2.toArray⟩) ∧ W.cell? ⟨bb, ob + 1, none⟩ = some (.int .i64 t2) ∧ W.cell? ⟨bb, ob + 2, none⟩ = some (.string ⟨x2.toArray⟩) ∧ Below w.heap.size w W)
        (first | exact hHeld | exact HTW.out | exact hV2 | fail)
        (first
          | (go_at_call 15; refine (HOR.out _).mono ?_; rintro e w5 ⟨rfl, hb2⟩; have hV2 := HTW.out.on hb2)
          | fail)
      all_goals
        have HV5 := Lib.hid (show DInv w (.slice Ao m co) acc w5 from ⟨HV.out.1.below (below_undrewN (n := 1) hb2), hV2.bel⟩)
        have HB5 := Lib.hid hV2
        have hbs5 := hV2.bel.size
        obtain ⟨p0, p1, p2, q0, q1, q2, _⟩ := hV2
        clear hb2
        have HOND := Lib.hid (show World.ownsRow (w5.alloc (.cells #[.string ⟨i2.toArray⟩, .int .i64 t2, .string ⟨x2.toArray⟩] 31)).drew w.heap.size 31 3 (.slice Ao m co) m (dcells acc) by
          have h := HV5.out.1
          unfold DRow at h
          rw [HL.out] at h
          exact World.ownsRow.alloc h _)
        by_cases hc1 : cb = 1
        · subst hc1
          obtain rfl : nb = 1 := by omega
          clear p0 p1 p2 q0 q1 q2
          obtain ⟨p0, p1, p2, q0, q1, q2, _⟩ := HB5.out
          go_wp2_with fail
          go_region_law (first
            | (refine step_append_lies _ (by rfl) _ _ _ (by rfl) w.heap.size 31 i0 _ 3 40 Try.underlying24 HI.out HZ0.out HZ1.out HZ2.out rfl (by omega) (.slice Ao m co) m (dcells acc) (by rfl) HOND.out ⟨w5.heap.size, 0, none⟩ 1 1 [.string ⟨i2.toArray⟩, .int .i64 t2, .string ⟨x2.toArray⟩] (by rfl) (by rfl) (World.news_of_block (cs := #[.string ⟨i2.toArray⟩, .int .i64 t2, .string ⟨x2.toArray⟩]) (t := 31) (fr := (0, 0)) (heap_alloc_new w5 _)) (by simp [Value.oneCell']) (by omega) (by simp only [maxLen]; omega) (by omega) (by simp; omega) (w5.heap.size + 1) (by simp) ?_; intro g8 cap8 w8 hown8 hgrow8 hat8 hlt8)
            | fail)
          all_goals
            have HV8 := Lib.hid (HV5.out.next (x := ⟨i2, t2, x2⟩) (o := .cells #[.string ⟨i2.toArray⟩, .int .i64 t2, .string ⟨x2.toArray⟩] 31) HL.out hown8 ⟨hgrow8.os, hgrow8.tape, hgrow8.output, hgrow8.size, hgrow8.block⟩)
            have HL8 := Lib.hid (show (acc ++ [(⟨i2, t2, x2⟩ : M.D)]).length = m + 1 by rw [List.length_append, HL.out]; rfl)
            clear hown8 hgrow8 hat8
            go_wp2
            refine ⟨?_, ?_⟩
            · iterate 41 apply Exists.intro
              exact ⟨⟨_, some ⟨bb, ob, none⟩, _, na, ca, 0, 0, m + 1, cap8, _, _, _, rfl, rfl, rfl, by omega, by omega, by omega, by omega, by omega, by omega, HX, Lib.hid (by simpa using HYF.out), HL8, HMB', HV8⟩, rfl⟩
            · show na + 0 < na + 1; omega
        · have hc2 : 1 < cb := by omega
          have hc3 : 1 ≤ nb := by omega
          have hc4 : (1 : Int) ≤ (nb : Int) := by omega
          have hc5 : 1 ≤ cb := by omega
          have hc6 : (1 : Int) ≤ (cb : Int) := by omega
          go_wp2_with fail
          go_region_law (first
            | (refine step_append_lies _ (by rfl) _ _ _ (by rfl) w.heap.size 31 i0 _ 3 40 Try.underlying24 HI.out HZ0.out HZ1.out HZ2.out rfl (by omega) (.slice Ao m co) m (dcells acc) (by rfl) HOND.out ⟨w5.heap.size, 0, none⟩ 1 1 [.string ⟨i2.toArray⟩, .int .i64 t2, .string ⟨x2.toArray⟩] (by rfl) (by rfl) (World.news_of_block (cs := #[.string ⟨i2.toArray⟩, .int .i64 t2, .string ⟨x2.toArray⟩]) (t := 31) (fr := (0, 0)) (heap_alloc_new w5 _)) (by simp [Value.oneCell']) (by omega) (by simp only [maxLen]; omega) (by omega) (by simp; omega) (w5.heap.size + 1) (by simp) ?_; intro g8 cap8 w8 hown8 hgrow8 hat8 hlt8)
            | fail)
          all_goals
            have HV8 := Lib.hid (HV5.out.next (x := ⟨i2, t2, x2⟩) (o := .cells #[.string ⟨i2.toArray⟩, .int .i64 t2, .string ⟨x2.toArray⟩] 31) HL.out hown8 ⟨hgrow8.os, hgrow8.tape, hgrow8.output, hgrow8.size, hgrow8.block⟩)
            have HL8 := Lib.hid (show (acc ++ [(⟨i2, t2, x2⟩ : M.D)]).length = m + 1 by rw [List.length_append, HL.out]; rfl)
            clear hown8 hgrow8 hat8
            go_wp2
            refine ⟨?_, ?_⟩
            · iterate 41 apply Exists.intro
              exact ⟨⟨_, some ⟨bb, ob + 3, none⟩, _, na, ca, nb - 1, cb - 1, m + 1, cap8, _, _, _, rfl, rfl, rfl, by omega, by omega, by omega, by omega, by omega, by omega, HX, Lib.hid (by have h := HYF.out; rw [if_neg hc1] at h; simpa [add_none] using h), HL8, HMB', HV8⟩, rfl⟩
            · show na + (nb - 1) < na + nb; omega
end Go.Proofs.Ytpnhjcedhcgglaa
