/-
  The laws PostSets and PostLaws, by the contracts.
-/
import Derived.Test.YtpcodknhjobmdaaPostF
namespace Go.Proofs.Ytpcodknhjobmdaa
open Go.RowKit Mem
set_option linter.unusedVariables false
set_option maxRecDepth 100000

/-- a slice of numbers that a world reads, and every later one -/
def Reads (w : World) (A : Option Addr) (n c : Nat) (l : List Int) : Prop := RdV w w.heap.size A n c (ints l)
theorem Reads.on {w w' : World} {A : Option Addr} {n c : Nat} {l : List Int} (h : Reads w A n c l) (hb : Below w.heap.size w w') : Reads w' A n c l := (RdV.below h hb).more hb.size

set_option maxHeartbeats 4000000 in
theorem postSets_any (A : Option Addr) (n c : Nat) (a : List Int) (A' : Option Addr) (n' c' : Nat) (b : List Int) (w : World) (h : RdV w w.heap.size A n c (ints a)) (h' : RdV w w.heap.size A' n' c' (ints b)) (hz : c ≤ 140737488351232) (hz' : c' ≤ 140737488351232) :
    Calls Try.prog 5 #[.slice A n c, .slice A' n' c'] w (SaysB true w) := by
  have hc := h.2.1
  have hc' := h'.2.1
  have HR := Lib.hid (show Reads w A n c a from h)
  have HR' := Lib.hid (show Reads w A' n' c' b from h')
  have HN := Lib.hid (show n = a.length by have := h.1; rwa [ints_len] at this)
  have HN' := Lib.hid (show n' = b.length by have := h'.1; rwa [ints_len] at this)
  clear h h'
  cases ha : M.rise (-1) a with
  | false =>
    go_enter Try.func5, Try.ntmps5
    go_wp2_with fail
    refine (awake8_any w).mono ?_
    rintro e w1 ⟨rfl, hb1⟩
    go_wp2_with fail
    refine (rises_any A n c _ a w1 (HR.out.on hb1)).mono ?_
    rintro e w2 ⟨rfl, hb2⟩
    have hb02 := hb1.trans (hb2.mono hb1.size)
    rw [ha]
    go_wp2_with fail
    refine (awake8_any w2).mono ?_
    rintro e w3 ⟨rfl, hb3⟩
    have HB := Lib.hid (hb02.trans (hb3.mono hb02.size))
    clear hb1 hb2 hb3 hb02
    go_wp2
    go_ret
    exact ⟨rfl, HB.out⟩
  | true =>
    cases hb : M.rise (-1) b with
    | false =>
      go_enter Try.func5, Try.ntmps5
      go_wp2_with fail
      refine (awake8_any w).mono ?_
      rintro e w1 ⟨rfl, hb1⟩
      go_wp2_with fail
      refine (rises_any A n c _ a w1 (HR.out.on hb1)).mono ?_
      rintro e w2 ⟨rfl, hb2⟩
      have hb02 := hb1.trans (hb2.mono hb1.size)
      rw [ha]
      go_wp2_with fail
      refine (rises_any A' n' c' _ b w2 (HR'.out.on hb02)).mono ?_
      rintro e w3 ⟨rfl, hb3⟩
      have hb03 := hb02.trans (hb3.mono hb02.size)
      rw [hb]
      go_wp2_with fail
      refine (awake8_any w3).mono ?_
      rintro e w4 ⟨rfl, hb4⟩
      have HB := Lib.hid (hb03.trans (hb4.mono hb03.size))
      clear hb1 hb2 hb3 hb02 hb03 hb4
      go_wp2
      go_ret
      exact ⟨rfl, HB.out⟩
    | true =>
      by_cases hbig : 500 < n + n'
      · have hq : decide ((500 : Int) < (n : Int) + (n' : Int)) = true := by simp; omega
        go_enter Try.func5, Try.ntmps5
        go_wp2_with fail
        refine (awake8_any w).mono ?_
        rintro e w1 ⟨rfl, hb1⟩
        go_wp2_with fail
        refine (rises_any A n c _ a w1 (HR.out.on hb1)).mono ?_
        rintro e w2 ⟨rfl, hb2⟩
        have hb02 := hb1.trans (hb2.mono hb1.size)
        rw [ha]
        go_wp2_with fail
        refine (rises_any A' n' c' _ b w2 (HR'.out.on hb02)).mono ?_
        rintro e w3 ⟨rfl, hb3⟩
        have hb03 := hb02.trans (hb3.mono hb02.size)
        rw [hb]
        go_wp2_with fail
        refine (awake8_any w3).mono ?_
        rintro e w4 ⟨rfl, hb4⟩
        have HB := Lib.hid (hb03.trans (hb4.mono hb03.size))
        clear hb1 hb2 hb3 hb02 hb03 hb4
        go_wp2
        go_ret
        exact ⟨rfl, HB.out⟩
      · have hq : decide ((500 : Int) < (n : Int) + (n' : Int)) = false := by simp; omega
        have hlen : a.length + b.length ≤ 500 := by have := HN.out; have := HN'.out; omega
        go_enter Try.func5, Try.ntmps5
        go_wp2_with fail
        refine (awake8_any w).mono ?_
        rintro e w1 ⟨rfl, hb1⟩
        go_wp2_with fail
        refine (rises_any A n c _ a w1 (HR.out.on hb1)).mono ?_
        rintro e w2 ⟨rfl, hb2⟩
        have hb02 := hb1.trans (hb2.mono hb1.size)
        rw [ha]
        go_wp2_with fail
        refine (rises_any A' n' c' _ b w2 (HR'.out.on hb02)).mono ?_
        rintro e w3 ⟨rfl, hb3⟩
        have hb03 := hb02.trans (hb3.mono hb02.size)
        rw [hb]
        clear hb1 hb2 hb3 hb02
        go_wp2_with fail
        refine (and_any A n c a A' n' c' b w3 (HR.out.on hb03) (HR'.out.on hb03) (by omega)).mono ?_
        rintro e w4 ⟨v4, rfl, ho4, hb4⟩
        have hb04 := hb03.trans (hb4.mono hb03.size)
        obtain ⟨A4, n4, c4, rfl, HN4, hc4, hm4⟩ := own_form ho4
        have HR4 := Lib.hid (show Reads w4 A4 n4 c4 (M.andL a b) from ho4.rd)
        clear ho4 hb4 hb03
        go_wp2_with fail
        refine (or_any A n c a A' n' c' b w4 (HR.out.on hb04) (HR'.out.on hb04) (by omega)).mono ?_
        rintro e w5 ⟨v5, rfl, ho5, hb5⟩
        have hb05 := hb04.trans (hb5.mono hb04.size)
        obtain ⟨A5, n5, c5, rfl, HN5, hc5, hm5⟩ := own_form ho5
        have HR5 := Lib.hid (show Reads w5 A5 n5 c5 (M.orL a b) from ho5.rd)
        have HR45 := Lib.hid (HR4.out.on hb5)
        clear ho5 hb5 hb04 HR4
        go_wp2_with fail
        refine (less_any A n c a A' n' c' b w5 (HR.out.on hb05) (HR'.out.on hb05) (by omega)).mono ?_
        rintro e w6 ⟨v6, rfl, ho6, hb6⟩
        have hb06 := hb05.trans (hb6.mono hb05.size)
        obtain ⟨A6, n6, c6, rfl, HN6, hc6, hm6⟩ := own_form ho6
        have HR6 := Lib.hid (show Reads w6 A6 n6 c6 (M.lessL a b) from ho6.rd)
        have HR46 := Lib.hid (HR45.out.on hb6)
        have HR56 := Lib.hid (HR5.out.on hb6)
        clear ho6 hb6 hb05 HR45 HR5
        go_wp2_with fail
        refine (rises_any A4 n4 c4 _ _ w6 HR46.out).mono ?_
        rintro e w7 ⟨rfl, hb7⟩
        have HB7 := Lib.hid hb7
        rw [M.rise_and a b _ ha hb]
        go_wp2_with fail
        refine (rises_any A5 n5 c5 _ _ w7 (HR56.out.on hb7)).mono ?_
        rintro e w8 ⟨rfl, hb8⟩
        have hb68 := hb7.trans (hb8.mono hb7.size)
        rw [M.rise_or a b _ ha hb]
        go_wp2_with fail
        refine (rises_any A6 n6 c6 _ _ w8 (HR6.out.on hb68)).mono ?_
        rintro e w9 ⟨rfl, hb9⟩
        have hb69 := hb68.trans (hb9.mono hb68.size)
        rw [M.rise_diff a b _ ha]
        have HB9 := Lib.hid (hb06.trans (hb69.mono hb06.size))
        have HA9 := Lib.hid (HR.out.on HB9.out)
        have HA9' := Lib.hid (HR'.out.on HB9.out)
        have HR49 := Lib.hid (HR46.out.on hb69)
        have HR59 := Lib.hid (HR56.out.on hb69)
        have HR69 := Lib.hid (HR6.out.on hb69)
        have HMA := Lib.hid (M.mem_and a b _ ha hb)
        have HML := Lib.hid (M.mem_less a b _ ha hb)
        have HMO := Lib.hid (M.mem_or a b)
        have hs1 : n4 + n5 = n + n' := by have := M.and_len a b; have := HN4.out; have := HN5.out; have := HN.out; have := HN'.out; omega
        have hs2 : n4 + n6 = n := by have := M.less_len a b; have := HN4.out; have := HN6.out; have := HN.out; omega
        have hs3 : n4 + n5 ≤ 500 := by omega
        have hs4 : n4 + n6 ≤ 500 := by omega
        have hq1 : (n4 : Int) + (n5 : Int) = (n : Int) + (n' : Int) := by omega
        have hq2 : ((n4 : Int) + (n6 : Int) != (n : Int)) = false := by simp; omega
        clear hb7 hb8 hb9 hb68 hb69 hb06 HB7 ha hb HR HR' HR46 HR56 HR6 hs1 hs2
        generalize M.andL a b = la at *
        generalize M.orL a b = lo at *
        generalize M.lessL a b = ll at *
        go_wp2
        clear hq1 hq2
        go_loopw [8] (fun i wr => ∃ j : Nat, i = .int .i64 j ∧ j ≤ n5 ∧ Hid (Below w9.heap.size w9 wr)) (fun i _ => n5 - (intOf i).toNat)
        case atStart => exact ⟨0, rfl, Nat.zero_le _, Lib.hid (Below.refl _ _)⟩
        case round =>
          obtain ⟨j, rfl, hj, HB⟩ := hrel
          rename World => wr
          by_cases hlt : j < n5
          · obtain ⟨g, off, x, rfl, hg, hcell, _, _, hmem⟩ := int_at (HR59.out.on HB.out) hlt
            have HX := Lib.hid ((HMO.out x).1 hmem)
            clear hmem
            go_wp2_with fail
            refine (in_any A n c _ a x wr (HA9.out.on HB.out)).mono ?_
            rintro e y1 ⟨rfl, hu1⟩
            have hv1 := HB.out.trans (hu1.mono HB.out.size)
            go_wp2_with fail
            refine (in_any A' n' c' _ b x y1 (HA9'.out.on hv1)).mono ?_
            rintro e y2 ⟨rfl, hu2⟩
            have hv2 := hv1.trans (hu2.mono hv1.size)
            have HC1 := Lib.hid (fun W (h : Below w9.heap.size w9 W) => in_any A4 n4 c4 _ la x W (HR49.out.on h))
            have HC2 := Lib.hid (fun W (h : Below w9.heap.size w9 W) => in_any A6 n6 c6 _ ll x W (HR69.out.on h))
            have e1 : decide (x ∈ la) = (decide (x ∈ a) && decide (x ∈ b)) := by rw [Bool.eq_iff_iff]; simp [HMA.out x]
            have e2 : decide (x ∈ ll) = (decide (x ∈ a) && !decide (x ∈ b)) := by rw [Bool.eq_iff_iff]; simp [HML.out x]
            have e3 : (decide (x ∈ a) || decide (x ∈ b)) = true := by simp [HX.out]
            rw [e1] at HC1
            rw [e2] at HC2
            clear e1 e2 hu1 hu2 hv1
            generalize decide (x ∈ a) = p at *
            generalize decide (x ∈ b) = q at *
            have HV2 := Lib.hid hv2
            clear hv2 hcell
            cases p <;> cases q
            · simp at e3
            all_goals
              simp only [Bool.and_true, Bool.and_false, Bool.not_true, Bool.not_false] at HC1 HC2
              go_wp2_with fail
              refine (HC1.out _ HV2.out).mono ?_
              rintro e y3 ⟨rfl, hu3⟩
              have HV3 := Lib.hid (HV2.out.trans (hu3.mono HV2.out.size))
              clear hu3
              go_wp2_with fail
              refine (HC2.out _ HV3.out).mono ?_
              rintro e y4 ⟨rfl, hu4⟩
              have HV4 := Lib.hid (HV3.out.trans (hu4.mono HV3.out.size))
              clear hu4
              go_wp2
              go_roundw
              case rel => exact ⟨j + 1, by go_num, by omega, HV4⟩
              case measure => simp [intOf]; omega
          · have HBB := Lib.hid (HB9.out.trans (HB.out.mono HB9.out.size))
            go_wp2
            go_ret
            exact ⟨rfl, HBB.out⟩
end Go.Proofs.Ytpcodknhjobmdaa
