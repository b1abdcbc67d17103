/-
  The law PostLaws, by the contracts (written by wip/tools/gen_posth.py).
-/
import Derived.Test.YtpcodknhjobmdaaPostG
namespace Go.Proofs.Ytpcodknhjobmdaa
open Go.RowKit Mem
set_option linter.unusedVariables false
set_option maxRecDepth 100000

set_option maxHeartbeats 8000000 in
theorem postLaws_any (A : Option Addr) (n c : Nat) (a : List Int) (A' : Option Addr) (n' c' : Nat) (b : List Int) (A'' : Option Addr) (n'' c'' : Nat) (d : List Int) (w : World)
    (h : RdV w w.heap.size A n c (ints a)) (h' : RdV w w.heap.size A' n' c' (ints b)) (h'' : RdV w w.heap.size A'' n'' c'' (ints d)) (hz : c ≤ 140737488351232) (hz' : c' ≤ 140737488351232) (hz'' : c'' ≤ 140737488351232) :
    Calls Try.prog 6 #[.slice A n c, .slice A' n' c', .slice A'' n'' c''] w (SaysB true w) := by
  have hc := h.2.1
  have hc' := h'.2.1
  have hc'' := h''.2.1
  have HRa := Lib.hid (show Reads w A n c a from h)
  have HRb := Lib.hid (show Reads w A' n' c' b from h')
  have HRd := Lib.hid (show Reads w A'' n'' c'' d from h'')
  have HN := Lib.hid (show n = a.length by have := h.1; rwa [ints_len] at this)
  have HN' := Lib.hid (show n' = b.length by have := h'.1; rwa [ints_len] at this)
  have HN'' := Lib.hid (show n'' = d.length by have := h''.1; rwa [ints_len] at this)
  have HB := Lib.hid (Below.refl w.heap.size w)
  clear h h' h''
  cases ha : M.rise (-1) a with
  | false =>
    go_enter Try.func6, Try.ntmps6
    go_wp2_with fail
    refine (awake8_any _).mono ?_
    rintro e x1 ⟨rfl, hb⟩
    have HB := Lib.hid (HB.out.trans (hb.mono HB.out.size))
    have HRa := Lib.hid (HRa.out.on hb)
    have HRb := Lib.hid (HRb.out.on hb)
    have HRd := Lib.hid (HRd.out.on hb)
    clear hb
    go_wp2_with fail
    refine (rises_any A n c _ a _ HRa.out).mono ?_
    rintro e x2 ⟨rfl, hb⟩
    have HB := Lib.hid (HB.out.trans (hb.mono HB.out.size))
    have HRa := Lib.hid (HRa.out.on hb)
    have HRb := Lib.hid (HRb.out.on hb)
    have HRd := Lib.hid (HRd.out.on hb)
    clear hb
    rw [ha]
    go_wp2_with fail
    refine (awake8_any _).mono ?_
    rintro e x3 ⟨rfl, hb⟩
    have HB := Lib.hid (HB.out.trans (hb.mono HB.out.size))
    have HRa := Lib.hid (HRa.out.on hb)
    have HRb := Lib.hid (HRb.out.on hb)
    have HRd := Lib.hid (HRd.out.on hb)
    clear hb
    go_wp2
    go_ret
    exact ⟨rfl, HB.out⟩
  | true =>
    cases hb0 : M.rise (-1) b with
    | false =>
      go_enter Try.func6, Try.ntmps6
      go_wp2_with fail
      refine (awake8_any _).mono ?_
      rintro e x1 ⟨rfl, hb⟩
      have HB := Lib.hid (HB.out.trans (hb.mono HB.out.size))
      have HRa := Lib.hid (HRa.out.on hb)
      have HRb := Lib.hid (HRb.out.on hb)
      have HRd := Lib.hid (HRd.out.on hb)
      clear hb
      go_wp2_with fail
      refine (rises_any A n c _ a _ HRa.out).mono ?_
      rintro e x2 ⟨rfl, hb⟩
      have HB := Lib.hid (HB.out.trans (hb.mono HB.out.size))
      have HRa := Lib.hid (HRa.out.on hb)
      have HRb := Lib.hid (HRb.out.on hb)
      have HRd := Lib.hid (HRd.out.on hb)
      clear hb
      rw [ha]
      go_wp2_with fail
      refine (rises_any A' n' c' _ b _ HRb.out).mono ?_
      rintro e x3 ⟨rfl, hb⟩
      have HB := Lib.hid (HB.out.trans (hb.mono HB.out.size))
      have HRa := Lib.hid (HRa.out.on hb)
      have HRb := Lib.hid (HRb.out.on hb)
      have HRd := Lib.hid (HRd.out.on hb)
      clear hb
      rw [hb0]
      go_wp2_with fail
      refine (awake8_any _).mono ?_
      rintro e x4 ⟨rfl, hb⟩
      have HB := Lib.hid (HB.out.trans (hb.mono HB.out.size))
      have HRa := Lib.hid (HRa.out.on hb)
      have HRb := Lib.hid (HRb.out.on hb)
      have HRd := Lib.hid (HRd.out.on hb)
      clear hb
      go_wp2
      go_ret
      exact ⟨rfl, HB.out⟩
    | true =>
      cases hd : M.rise (-1) d with
      | false =>
        go_enter Try.func6, Try.ntmps6
        go_wp2_with fail
        refine (awake8_any _).mono ?_
        rintro e x1 ⟨rfl, hb⟩
        have HB := Lib.hid (HB.out.trans (hb.mono HB.out.size))
        have HRa := Lib.hid (HRa.out.on hb)
        have HRb := Lib.hid (HRb.out.on hb)
        have HRd := Lib.hid (HRd.out.on hb)
        clear hb
        go_wp2_with fail
        refine (rises_any A n c _ a _ HRa.out).mono ?_
        rintro e x2 ⟨rfl, hb⟩
        have HB := Lib.hid (HB.out.trans (hb.mono HB.out.size))
        have HRa := Lib.hid (HRa.out.on hb)
        have HRb := Lib.hid (HRb.out.on hb)
        have HRd := Lib.hid (HRd.out.on hb)
        clear hb
        rw [ha]
        go_wp2_with fail
        refine (rises_any A' n' c' _ b _ HRb.out).mono ?_
        rintro e x3 ⟨rfl, hb⟩
        have HB := Lib.hid (HB.out.trans (hb.mono HB.out.size))
        have HRa := Lib.hid (HRa.out.on hb)
        have HRb := Lib.hid (HRb.out.on hb)
        have HRd := Lib.hid (HRd.out.on hb)
        clear hb
        rw [hb0]
        go_wp2_with fail
        refine (rises_any A'' n'' c'' _ d _ HRd.out).mono ?_
        rintro e x4 ⟨rfl, hb⟩
        have HB := Lib.hid (HB.out.trans (hb.mono HB.out.size))
        have HRa := Lib.hid (HRa.out.on hb)
        have HRb := Lib.hid (HRb.out.on hb)
        have HRd := Lib.hid (HRd.out.on hb)
        clear hb
        rw [hd]
        go_wp2_with fail
        refine (awake8_any _).mono ?_
        rintro e x5 ⟨rfl, hb⟩
        have HB := Lib.hid (HB.out.trans (hb.mono HB.out.size))
        have HRa := Lib.hid (HRa.out.on hb)
        have HRb := Lib.hid (HRb.out.on hb)
        have HRd := Lib.hid (HRd.out.on hb)
        clear hb
        go_wp2
        go_ret
        exact ⟨rfl, HB.out⟩
      | true =>
        by_cases hbig : 300 < n + n' + n''
        · have hq : decide ((300 : Int) < (n : Int) + (n' : Int) + (n'' : Int)) = true := by simp; omega
          go_enter Try.func6, Try.ntmps6
          go_wp2_with fail
          refine (awake8_any _).mono ?_
          rintro e x1 ⟨rfl, hb⟩
          have HB := Lib.hid (HB.out.trans (hb.mono HB.out.size))
          have HRa := Lib.hid (HRa.out.on hb)
          have HRb := Lib.hid (HRb.out.on hb)
          have HRd := Lib.hid (HRd.out.on hb)
          clear hb
          go_wp2_with fail
          refine (rises_any A n c _ a _ HRa.out).mono ?_
          rintro e x2 ⟨rfl, hb⟩
          have HB := Lib.hid (HB.out.trans (hb.mono HB.out.size))
          have HRa := Lib.hid (HRa.out.on hb)
          have HRb := Lib.hid (HRb.out.on hb)
          have HRd := Lib.hid (HRd.out.on hb)
          clear hb
          rw [ha]
          go_wp2_with fail
          refine (rises_any A' n' c' _ b _ HRb.out).mono ?_
          rintro e x3 ⟨rfl, hb⟩
          have HB := Lib.hid (HB.out.trans (hb.mono HB.out.size))
          have HRa := Lib.hid (HRa.out.on hb)
          have HRb := Lib.hid (HRb.out.on hb)
          have HRd := Lib.hid (HRd.out.on hb)
          clear hb
          rw [hb0]
          go_wp2_with fail
          refine (rises_any A'' n'' c'' _ d _ HRd.out).mono ?_
          rintro e x4 ⟨rfl, hb⟩
          have HB := Lib.hid (HB.out.trans (hb.mono HB.out.size))
          have HRa := Lib.hid (HRa.out.on hb)
          have HRb := Lib.hid (HRb.out.on hb)
          have HRd := Lib.hid (HRd.out.on hb)
          clear hb
          rw [hd]
          go_wp2_with fail
          refine (awake8_any _).mono ?_
          rintro e x5 ⟨rfl, hb⟩
          have HB := Lib.hid (HB.out.trans (hb.mono HB.out.size))
          have HRa := Lib.hid (HRa.out.on hb)
          have HRb := Lib.hid (HRb.out.on hb)
          have HRd := Lib.hid (HRd.out.on hb)
          clear hb
          go_wp2
          go_ret
          exact ⟨rfl, HB.out⟩
        · have hq : decide ((300 : Int) < (n : Int) + (n' : Int) + (n'' : Int)) = false := by simp; omega
          have HLa := Lib.hid (show a.length ≤ 300 by have := HN.out; omega)
          have HLb := Lib.hid (show b.length ≤ 300 by have := HN'.out; omega)
          have HLd := Lib.hid (show d.length ≤ 300 by have := HN''.out; omega)
          have E1 := Lib.hid (M.law_and ha hb0)
          have E2 := Lib.hid (M.law_or ha hb0)
          have E3 := Lib.hid (M.law_or1 a)
          have E4 := Lib.hid (M.law_and1 a)
          have E5 := Lib.hid (M.law_less1 a)
          have E6 := Lib.hid (M.law_part ha hb0)
          have E7 := Lib.hid (M.law_dist ha hb0 hd)
          have E8 := Lib.hid (M.law_two ha hb0 hd)
          go_enter Try.func6, Try.ntmps6
          go_wp2_with fail
          refine (awake8_any _).mono ?_
          rintro e x1 ⟨rfl, hb⟩
          have HB := Lib.hid (HB.out.trans (hb.mono HB.out.size))
          have HRa := Lib.hid (HRa.out.on hb)
          have HRb := Lib.hid (HRb.out.on hb)
          have HRd := Lib.hid (HRd.out.on hb)
          clear hb
          go_wp2_with fail
          refine (rises_any A n c _ a _ HRa.out).mono ?_
          rintro e x2 ⟨rfl, hb⟩
          have HB := Lib.hid (HB.out.trans (hb.mono HB.out.size))
          have HRa := Lib.hid (HRa.out.on hb)
          have HRb := Lib.hid (HRb.out.on hb)
          have HRd := Lib.hid (HRd.out.on hb)
          clear hb
          rw [ha]
          go_wp2_with fail
          refine (rises_any A' n' c' _ b _ HRb.out).mono ?_
          rintro e x3 ⟨rfl, hb⟩
          have HB := Lib.hid (HB.out.trans (hb.mono HB.out.size))
          have HRa := Lib.hid (HRa.out.on hb)
          have HRb := Lib.hid (HRb.out.on hb)
          have HRd := Lib.hid (HRd.out.on hb)
          clear hb
          rw [hb0]
          go_wp2_with fail
          refine (rises_any A'' n'' c'' _ d _ HRd.out).mono ?_
          rintro e x4 ⟨rfl, hb⟩
          have HB := Lib.hid (HB.out.trans (hb.mono HB.out.size))
          have HRa := Lib.hid (HRa.out.on hb)
          have HRb := Lib.hid (HRb.out.on hb)
          have HRd := Lib.hid (HRd.out.on hb)
          clear hb
          rw [hd]
          clear ha hb0 hd
          go_wp2_with fail
          refine (and_any A n c a A' n' c' b _ HRa.out HRb.out (by have := HLa.out; have := HLb.out; omega)).mono ?_
          rintro e x5 ⟨v, rfl, ho, hb⟩
          obtain ⟨At1, nt1, ct1, rfl, HNt1, hct1, hmt1⟩ := own_form ho
          have HRt1 := Lib.hid (show Reads x5 At1 nt1 ct1 (M.andL a b) from ho.rd)
          have HLt1 := Lib.hid (show (M.andL a b).length ≤ 300 by have := M.and_le a b; have := HLa.out; have := HLb.out; omega)
          clear ho
          have HB := Lib.hid (HB.out.trans (hb.mono HB.out.size))
          have HRa := Lib.hid (HRa.out.on hb)
          have HRb := Lib.hid (HRb.out.on hb)
          have HRd := Lib.hid (HRd.out.on hb)
          clear hb
          go_wp2_with fail
          refine (and_any A' n' c' b A n c a _ HRb.out HRa.out (by have := HLb.out; have := HLa.out; omega)).mono ?_
          rintro e x6 ⟨v, rfl, ho, hb⟩
          obtain ⟨At2, nt2, ct2, rfl, HNt2, hct2, hmt2⟩ := own_form ho
          have HRt2 := Lib.hid (show Reads x6 At2 nt2 ct2 (M.andL b a) from ho.rd)
          have HLt2 := Lib.hid (show (M.andL b a).length ≤ 300 by have := M.and_le b a; have := HLb.out; have := HLa.out; omega)
          clear ho
          have HB := Lib.hid (HB.out.trans (hb.mono HB.out.size))
          have HRa := Lib.hid (HRa.out.on hb)
          have HRb := Lib.hid (HRb.out.on hb)
          have HRd := Lib.hid (HRd.out.on hb)
          have HRt1 := Lib.hid (HRt1.out.on hb)
          clear hb
          go_wp2_with fail
          refine (same_any At1 nt1 ct1 _ (M.andL a b) At2 nt2 ct2 _ (M.andL b a) _ HRt1.out HRt2.out).mono ?_
          rintro e x7 ⟨rfl, hb⟩
          have HB := Lib.hid (HB.out.trans (hb.mono HB.out.size))
          have HRa := Lib.hid (HRa.out.on hb)
          have HRb := Lib.hid (HRb.out.on hb)
          have HRd := Lib.hid (HRd.out.on hb)
          have HRt1 := Lib.hid (HRt1.out.on hb)
          have HRt2 := Lib.hid (HRt2.out.on hb)
          clear hb
          rw [show decide (M.andL a b = M.andL b a) = true from decide_eq_true E1.out]
          clear HRt1 HLt1 HNt1
          clear HRt2 HLt2 HNt2
          go_wp2_with fail
          refine (or_any A n c a A' n' c' b _ HRa.out HRb.out (by have := HLa.out; have := HLb.out; omega)).mono ?_
          rintro e x8 ⟨v, rfl, ho, hb⟩
          obtain ⟨At3, nt3, ct3, rfl, HNt3, hct3, hmt3⟩ := own_form ho
          have HRt3 := Lib.hid (show Reads x8 At3 nt3 ct3 (M.orL a b) from ho.rd)
          have HLt3 := Lib.hid (show (M.orL a b).length ≤ 600 by have := M.or_le a b; have := HLa.out; have := HLb.out; omega)
          clear ho
          have HB := Lib.hid (HB.out.trans (hb.mono HB.out.size))
          have HRa := Lib.hid (HRa.out.on hb)
          have HRb := Lib.hid (HRb.out.on hb)
          have HRd := Lib.hid (HRd.out.on hb)
          clear hb
          go_wp2_with fail
          refine (or_any A' n' c' b A n c a _ HRb.out HRa.out (by have := HLb.out; have := HLa.out; omega)).mono ?_
          rintro e x9 ⟨v, rfl, ho, hb⟩
          obtain ⟨At4, nt4, ct4, rfl, HNt4, hct4, hmt4⟩ := own_form ho
          have HRt4 := Lib.hid (show Reads x9 At4 nt4 ct4 (M.orL b a) from ho.rd)
          have HLt4 := Lib.hid (show (M.orL b a).length ≤ 600 by have := M.or_le b a; have := HLb.out; have := HLa.out; omega)
          clear ho
          have HB := Lib.hid (HB.out.trans (hb.mono HB.out.size))
          have HRa := Lib.hid (HRa.out.on hb)
          have HRb := Lib.hid (HRb.out.on hb)
          have HRd := Lib.hid (HRd.out.on hb)
          have HRt3 := Lib.hid (HRt3.out.on hb)
          clear hb
          go_wp2_with fail
          refine (same_any At3 nt3 ct3 _ (M.orL a b) At4 nt4 ct4 _ (M.orL b a) _ HRt3.out HRt4.out).mono ?_
          rintro e x10 ⟨rfl, hb⟩
          have HB := Lib.hid (HB.out.trans (hb.mono HB.out.size))
          have HRa := Lib.hid (HRa.out.on hb)
          have HRb := Lib.hid (HRb.out.on hb)
          have HRd := Lib.hid (HRd.out.on hb)
          have HRt3 := Lib.hid (HRt3.out.on hb)
          have HRt4 := Lib.hid (HRt4.out.on hb)
          clear hb
          rw [show decide (M.orL a b = M.orL b a) = true from decide_eq_true E2.out]
          clear HRt3 HLt3 HNt3
          clear HRt4 HLt4 HNt4
          go_wp2_with fail
          refine (or_any A n c a A n c a _ HRa.out HRa.out (by have := HLa.out; have := HLa.out; omega)).mono ?_
          rintro e x11 ⟨v, rfl, ho, hb⟩
          obtain ⟨At5, nt5, ct5, rfl, HNt5, hct5, hmt5⟩ := own_form ho
          have HRt5 := Lib.hid (show Reads x11 At5 nt5 ct5 (M.orL a a) from ho.rd)
          have HLt5 := Lib.hid (show (M.orL a a).length ≤ 600 by have := M.or_le a a; have := HLa.out; have := HLa.out; omega)
          clear ho
          have HB := Lib.hid (HB.out.trans (hb.mono HB.out.size))
          have HRa := Lib.hid (HRa.out.on hb)
          have HRb := Lib.hid (HRb.out.on hb)
          have HRd := Lib.hid (HRd.out.on hb)
          clear hb
          go_wp2_with fail
          refine (same_any At5 nt5 ct5 _ (M.orL a a) A n c _ a _ HRt5.out HRa.out).mono ?_
          rintro e x12 ⟨rfl, hb⟩
          have HB := Lib.hid (HB.out.trans (hb.mono HB.out.size))
          have HRa := Lib.hid (HRa.out.on hb)
          have HRb := Lib.hid (HRb.out.on hb)
          have HRd := Lib.hid (HRd.out.on hb)
          have HRt5 := Lib.hid (HRt5.out.on hb)
          clear hb
          rw [show decide (M.orL a a = a) = true from decide_eq_true E3.out]
          clear HRt5 HLt5 HNt5
          go_wp2_with fail
          refine (and_any A n c a A n c a _ HRa.out HRa.out (by have := HLa.out; have := HLa.out; omega)).mono ?_
          rintro e x13 ⟨v, rfl, ho, hb⟩
          obtain ⟨At6, nt6, ct6, rfl, HNt6, hct6, hmt6⟩ := own_form ho
          have HRt6 := Lib.hid (show Reads x13 At6 nt6 ct6 (M.andL a a) from ho.rd)
          have HLt6 := Lib.hid (show (M.andL a a).length ≤ 300 by have := M.and_le a a; have := HLa.out; have := HLa.out; omega)
          clear ho
          have HB := Lib.hid (HB.out.trans (hb.mono HB.out.size))
          have HRa := Lib.hid (HRa.out.on hb)
          have HRb := Lib.hid (HRb.out.on hb)
          have HRd := Lib.hid (HRd.out.on hb)
          clear hb
          go_wp2_with fail
          refine (same_any At6 nt6 ct6 _ (M.andL a a) A n c _ a _ HRt6.out HRa.out).mono ?_
          rintro e x14 ⟨rfl, hb⟩
          have HB := Lib.hid (HB.out.trans (hb.mono HB.out.size))
          have HRa := Lib.hid (HRa.out.on hb)
          have HRb := Lib.hid (HRb.out.on hb)
          have HRd := Lib.hid (HRd.out.on hb)
          have HRt6 := Lib.hid (HRt6.out.on hb)
          clear hb
          rw [show decide (M.andL a a = a) = true from decide_eq_true E4.out]
          clear HRt6 HLt6 HNt6
          go_wp2_with fail
          refine (less_any A n c a A n c a _ HRa.out HRa.out (by have := HLa.out; have := HLa.out; omega)).mono ?_
          rintro e x15 ⟨v, rfl, ho, hb⟩
          obtain ⟨At7, nt7, ct7, rfl, HNt7, hct7, hmt7⟩ := own_form ho
          have HRt7 := Lib.hid (show Reads x15 At7 nt7 ct7 (M.lessL a a) from ho.rd)
          have HLt7 := Lib.hid (show (M.lessL a a).length ≤ 300 by have := M.less_le a a; have := HLa.out; have := HLa.out; omega)
          clear ho
          have HB := Lib.hid (HB.out.trans (hb.mono HB.out.size))
          have HRa := Lib.hid (HRa.out.on hb)
          have HRb := Lib.hid (HRb.out.on hb)
          have HRd := Lib.hid (HRd.out.on hb)
          clear hb
          have hn0 : nt7 = 0 := by have h1 := HNt7.out; rw [E5.out] at h1; exact h1
          subst hn0
          clear HRt7 HLt7 HNt7
          go_wp2_with fail
          refine (and_any A n c a A' n' c' b _ HRa.out HRb.out (by have := HLa.out; have := HLb.out; omega)).mono ?_
          rintro e x16 ⟨v, rfl, ho, hb⟩
          obtain ⟨At8, nt8, ct8, rfl, HNt8, hct8, hmt8⟩ := own_form ho
          have HRt8 := Lib.hid (show Reads x16 At8 nt8 ct8 (M.andL a b) from ho.rd)
          have HLt8 := Lib.hid (show (M.andL a b).length ≤ 300 by have := M.and_le a b; have := HLa.out; have := HLb.out; omega)
          clear ho
          have HB := Lib.hid (HB.out.trans (hb.mono HB.out.size))
          have HRa := Lib.hid (HRa.out.on hb)
          have HRb := Lib.hid (HRb.out.on hb)
          have HRd := Lib.hid (HRd.out.on hb)
          clear hb
          go_wp2_with fail
          refine (less_any A n c a A' n' c' b _ HRa.out HRb.out (by have := HLa.out; have := HLb.out; omega)).mono ?_
          rintro e x17 ⟨v, rfl, ho, hb⟩
          obtain ⟨At9, nt9, ct9, rfl, HNt9, hct9, hmt9⟩ := own_form ho
          have HRt9 := Lib.hid (show Reads x17 At9 nt9 ct9 (M.lessL a b) from ho.rd)
          have HLt9 := Lib.hid (show (M.lessL a b).length ≤ 300 by have := M.less_le a b; have := HLa.out; have := HLb.out; omega)
          clear ho
          have HB := Lib.hid (HB.out.trans (hb.mono HB.out.size))
          have HRa := Lib.hid (HRa.out.on hb)
          have HRb := Lib.hid (HRb.out.on hb)
          have HRd := Lib.hid (HRd.out.on hb)
          have HRt8 := Lib.hid (HRt8.out.on hb)
          clear hb
          go_wp2_with fail
          refine (or_any At8 nt8 ct8 (M.andL a b) At9 nt9 ct9 (M.lessL a b) _ HRt8.out HRt9.out (by have := HLt8.out; have := HLt9.out; omega)).mono ?_
          rintro e x18 ⟨v, rfl, ho, hb⟩
          obtain ⟨At10, nt10, ct10, rfl, HNt10, hct10, hmt10⟩ := own_form ho
          have HRt10 := Lib.hid (show Reads x18 At10 nt10 ct10 (M.orL (M.andL a b) (M.lessL a b)) from ho.rd)
          have HLt10 := Lib.hid (show (M.orL (M.andL a b) (M.lessL a b)).length ≤ 600 by have := M.or_le (M.andL a b) (M.lessL a b); have := HLt8.out; have := HLt9.out; omega)
          clear ho
          have HB := Lib.hid (HB.out.trans (hb.mono HB.out.size))
          have HRa := Lib.hid (HRa.out.on hb)
          have HRb := Lib.hid (HRb.out.on hb)
          have HRd := Lib.hid (HRd.out.on hb)
          have HRt8 := Lib.hid (HRt8.out.on hb)
          have HRt9 := Lib.hid (HRt9.out.on hb)
          clear hb
          clear HRt8 HLt8 HNt8
          clear HRt9 HLt9 HNt9
          go_wp2_with fail
          refine (same_any At10 nt10 ct10 _ (M.orL (M.andL a b) (M.lessL a b)) A n c _ a _ HRt10.out HRa.out).mono ?_
          rintro e x19 ⟨rfl, hb⟩
          have HB := Lib.hid (HB.out.trans (hb.mono HB.out.size))
          have HRa := Lib.hid (HRa.out.on hb)
          have HRb := Lib.hid (HRb.out.on hb)
          have HRd := Lib.hid (HRd.out.on hb)
          have HRt10 := Lib.hid (HRt10.out.on hb)
          clear hb
          rw [show decide (M.orL (M.andL a b) (M.lessL a b) = a) = true from decide_eq_true E6.out]
          clear HRt10 HLt10 HNt10
          go_wp2_with fail
          refine (or_any A' n' c' b A'' n'' c'' d _ HRb.out HRd.out (by have := HLb.out; have := HLd.out; omega)).mono ?_
          rintro e x20 ⟨v, rfl, ho, hb⟩
          obtain ⟨At11, nt11, ct11, rfl, HNt11, hct11, hmt11⟩ := own_form ho
          have HRt11 := Lib.hid (show Reads x20 At11 nt11 ct11 (M.orL b d) from ho.rd)
          have HLt11 := Lib.hid (show (M.orL b d).length ≤ 600 by have := M.or_le b d; have := HLb.out; have := HLd.out; omega)
          clear ho
          have HB := Lib.hid (HB.out.trans (hb.mono HB.out.size))
          have HRa := Lib.hid (HRa.out.on hb)
          have HRb := Lib.hid (HRb.out.on hb)
          have HRd := Lib.hid (HRd.out.on hb)
          clear hb
          go_wp2_with fail
          refine (and_any A n c a At11 nt11 ct11 (M.orL b d) _ HRa.out HRt11.out (by have := HLa.out; have := HLt11.out; omega)).mono ?_
          rintro e x21 ⟨v, rfl, ho, hb⟩
          obtain ⟨At12, nt12, ct12, rfl, HNt12, hct12, hmt12⟩ := own_form ho
          have HRt12 := Lib.hid (show Reads x21 At12 nt12 ct12 (M.andL a (M.orL b d)) from ho.rd)
          have HLt12 := Lib.hid (show (M.andL a (M.orL b d)).length ≤ 300 by have := M.and_le a (M.orL b d); have := HLa.out; have := HLt11.out; omega)
          clear ho
          have HB := Lib.hid (HB.out.trans (hb.mono HB.out.size))
          have HRa := Lib.hid (HRa.out.on hb)
          have HRb := Lib.hid (HRb.out.on hb)
          have HRd := Lib.hid (HRd.out.on hb)
          have HRt11 := Lib.hid (HRt11.out.on hb)
          clear hb
          clear HRt11 HLt11 HNt11
          go_wp2_with fail
          refine (and_any A n c a A' n' c' b _ HRa.out HRb.out (by have := HLa.out; have := HLb.out; omega)).mono ?_
          rintro e x22 ⟨v, rfl, ho, hb⟩
          obtain ⟨At13, nt13, ct13, rfl, HNt13, hct13, hmt13⟩ := own_form ho
          have HRt13 := Lib.hid (show Reads x22 At13 nt13 ct13 (M.andL a b) from ho.rd)
          have HLt13 := Lib.hid (show (M.andL a b).length ≤ 300 by have := M.and_le a b; have := HLa.out; have := HLb.out; omega)
          clear ho
          have HB := Lib.hid (HB.out.trans (hb.mono HB.out.size))
          have HRa := Lib.hid (HRa.out.on hb)
          have HRb := Lib.hid (HRb.out.on hb)
          have HRd := Lib.hid (HRd.out.on hb)
          have HRt12 := Lib.hid (HRt12.out.on hb)
          clear hb
          go_wp2_with fail
          refine (and_any A n c a A'' n'' c'' d _ HRa.out HRd.out (by have := HLa.out; have := HLd.out; omega)).mono ?_
          rintro e x23 ⟨v, rfl, ho, hb⟩
          obtain ⟨At14, nt14, ct14, rfl, HNt14, hct14, hmt14⟩ := own_form ho
          have HRt14 := Lib.hid (show Reads x23 At14 nt14 ct14 (M.andL a d) from ho.rd)
          have HLt14 := Lib.hid (show (M.andL a d).length ≤ 300 by have := M.and_le a d; have := HLa.out; have := HLd.out; omega)
          clear ho
          have HB := Lib.hid (HB.out.trans (hb.mono HB.out.size))
          have HRa := Lib.hid (HRa.out.on hb)
          have HRb := Lib.hid (HRb.out.on hb)
          have HRd := Lib.hid (HRd.out.on hb)
          have HRt12 := Lib.hid (HRt12.out.on hb)
          have HRt13 := Lib.hid (HRt13.out.on hb)
          clear hb
          go_wp2_with fail
          refine (or_any At13 nt13 ct13 (M.andL a b) At14 nt14 ct14 (M.andL a d) _ HRt13.out HRt14.out (by have := HLt13.out; have := HLt14.out; omega)).mono ?_
          rintro e x24 ⟨v, rfl, ho, hb⟩
          obtain ⟨At15, nt15, ct15, rfl, HNt15, hct15, hmt15⟩ := own_form ho
          have HRt15 := Lib.hid (show Reads x24 At15 nt15 ct15 (M.orL (M.andL a b) (M.andL a d)) from ho.rd)
          have HLt15 := Lib.hid (show (M.orL (M.andL a b) (M.andL a d)).length ≤ 600 by have := M.or_le (M.andL a b) (M.andL a d); have := HLt13.out; have := HLt14.out; omega)
          clear ho
          have HB := Lib.hid (HB.out.trans (hb.mono HB.out.size))
          have HRa := Lib.hid (HRa.out.on hb)
          have HRb := Lib.hid (HRb.out.on hb)
          have HRd := Lib.hid (HRd.out.on hb)
          have HRt12 := Lib.hid (HRt12.out.on hb)
          have HRt13 := Lib.hid (HRt13.out.on hb)
          have HRt14 := Lib.hid (HRt14.out.on hb)
          clear hb
          clear HRt13 HLt13 HNt13
          clear HRt14 HLt14 HNt14
          go_wp2_with fail
          refine (same_any At12 nt12 ct12 _ (M.andL a (M.orL b d)) At15 nt15 ct15 _ (M.orL (M.andL a b) (M.andL a d)) _ HRt12.out HRt15.out).mono ?_
          rintro e x25 ⟨rfl, hb⟩
          have HB := Lib.hid (HB.out.trans (hb.mono HB.out.size))
          have HRa := Lib.hid (HRa.out.on hb)
          have HRb := Lib.hid (HRb.out.on hb)
          have HRd := Lib.hid (HRd.out.on hb)
          have HRt12 := Lib.hid (HRt12.out.on hb)
          have HRt15 := Lib.hid (HRt15.out.on hb)
          clear hb
          rw [show decide (M.andL a (M.orL b d) = M.orL (M.andL a b) (M.andL a d)) = true from decide_eq_true E7.out]
          clear HRt12 HLt12 HNt12
          clear HRt15 HLt15 HNt15
          go_wp2_with fail
          refine (or_any A' n' c' b A'' n'' c'' d _ HRb.out HRd.out (by have := HLb.out; have := HLd.out; omega)).mono ?_
          rintro e x26 ⟨v, rfl, ho, hb⟩
          obtain ⟨At16, nt16, ct16, rfl, HNt16, hct16, hmt16⟩ := own_form ho
          have HRt16 := Lib.hid (show Reads x26 At16 nt16 ct16 (M.orL b d) from ho.rd)
          have HLt16 := Lib.hid (show (M.orL b d).length ≤ 600 by have := M.or_le b d; have := HLb.out; have := HLd.out; omega)
          clear ho
          have HB := Lib.hid (HB.out.trans (hb.mono HB.out.size))
          have HRa := Lib.hid (HRa.out.on hb)
          have HRb := Lib.hid (HRb.out.on hb)
          have HRd := Lib.hid (HRd.out.on hb)
          clear hb
          go_wp2_with fail
          refine (less_any A n c a At16 nt16 ct16 (M.orL b d) _ HRa.out HRt16.out (by have := HLa.out; have := HLt16.out; omega)).mono ?_
          rintro e x27 ⟨v, rfl, ho, hb⟩
          obtain ⟨At17, nt17, ct17, rfl, HNt17, hct17, hmt17⟩ := own_form ho
          have HRt17 := Lib.hid (show Reads x27 At17 nt17 ct17 (M.lessL a (M.orL b d)) from ho.rd)
          have HLt17 := Lib.hid (show (M.lessL a (M.orL b d)).length ≤ 300 by have := M.less_le a (M.orL b d); have := HLa.out; have := HLt16.out; omega)
          clear ho
          have HB := Lib.hid (HB.out.trans (hb.mono HB.out.size))
          have HRa := Lib.hid (HRa.out.on hb)
          have HRb := Lib.hid (HRb.out.on hb)
          have HRd := Lib.hid (HRd.out.on hb)
          have HRt16 := Lib.hid (HRt16.out.on hb)
          clear hb
          clear HRt16 HLt16 HNt16
          go_wp2_with fail
          refine (less_any A n c a A' n' c' b _ HRa.out HRb.out (by have := HLa.out; have := HLb.out; omega)).mono ?_
          rintro e x28 ⟨v, rfl, ho, hb⟩
          obtain ⟨At18, nt18, ct18, rfl, HNt18, hct18, hmt18⟩ := own_form ho
          have HRt18 := Lib.hid (show Reads x28 At18 nt18 ct18 (M.lessL a b) from ho.rd)
          have HLt18 := Lib.hid (show (M.lessL a b).length ≤ 300 by have := M.less_le a b; have := HLa.out; have := HLb.out; omega)
          clear ho
          have HB := Lib.hid (HB.out.trans (hb.mono HB.out.size))
          have HRa := Lib.hid (HRa.out.on hb)
          have HRb := Lib.hid (HRb.out.on hb)
          have HRd := Lib.hid (HRd.out.on hb)
          have HRt17 := Lib.hid (HRt17.out.on hb)
          clear hb
          go_wp2_with fail
          refine (less_any At18 nt18 ct18 (M.lessL a b) A'' n'' c'' d _ HRt18.out HRd.out (by have := HLt18.out; have := HLd.out; omega)).mono ?_
          rintro e x29 ⟨v, rfl, ho, hb⟩
          obtain ⟨At19, nt19, ct19, rfl, HNt19, hct19, hmt19⟩ := own_form ho
          have HRt19 := Lib.hid (show Reads x29 At19 nt19 ct19 (M.lessL (M.lessL a b) d) from ho.rd)
          have HLt19 := Lib.hid (show (M.lessL (M.lessL a b) d).length ≤ 300 by have := M.less_le (M.lessL a b) d; have := HLt18.out; have := HLd.out; omega)
          clear ho
          have HB := Lib.hid (HB.out.trans (hb.mono HB.out.size))
          have HRa := Lib.hid (HRa.out.on hb)
          have HRb := Lib.hid (HRb.out.on hb)
          have HRd := Lib.hid (HRd.out.on hb)
          have HRt17 := Lib.hid (HRt17.out.on hb)
          have HRt18 := Lib.hid (HRt18.out.on hb)
          clear hb
          clear HRt18 HLt18 HNt18
          go_wp2_with fail
          refine (same_any At17 nt17 ct17 _ (M.lessL a (M.orL b d)) At19 nt19 ct19 _ (M.lessL (M.lessL a b) d) _ HRt17.out HRt19.out).mono ?_
          rintro e x30 ⟨rfl, hb⟩
          have HB := Lib.hid (HB.out.trans (hb.mono HB.out.size))
          have HRa := Lib.hid (HRa.out.on hb)
          have HRb := Lib.hid (HRb.out.on hb)
          have HRd := Lib.hid (HRd.out.on hb)
          have HRt17 := Lib.hid (HRt17.out.on hb)
          have HRt19 := Lib.hid (HRt19.out.on hb)
          clear hb
          rw [show decide (M.lessL a (M.orL b d) = M.lessL (M.lessL a b) d) = true from decide_eq_true E8.out]
          clear HRt17 HLt17 HNt17
          clear HRt19 HLt19 HNt19
          go_wp2
          go_ret
          exact ⟨rfl, HB.out⟩
end Go.Proofs.Ytpcodknhjobmdaa
