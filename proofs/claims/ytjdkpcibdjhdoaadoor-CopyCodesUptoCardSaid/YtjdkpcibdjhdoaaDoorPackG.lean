/-
  What the two ReadTexts do, by contracts: each answers 'M.rdText' of the bytes, the place and the bound.
-/
import Derived.Test.YtjdkpcibdjhdoaaDoorPackF
namespace Go.Proofs.YtjdkpcibdjhdoaaDoor
open Go.RowKit Mem

def TellsT (r : List UInt8 × Nat × Nat) (w : World) (e : Ending) (w' : World) : Prop := e = .returned (.tuple #[.string ⟨r.1.toArray⟩, .int .i64 (r.2.1 : Int), .int .i64 (r.2.2 : Int)]) ∧ Below w.heap.size w w'

theorem rdText_err {l : List UInt8} {at_ most : Int} (h : (M.rdAt l at_).2.2 ≠ 0) : M.rdText l at_ most = ([], 0, (M.rdAt l at_).2.2) := by unfold M.rdText; rw [if_pos h]
theorem rdText_form {l : List UInt8} {at_ most : Int} (h : (M.rdAt l at_).2.2 = 0) (h2 : l.length - (M.rdAt l at_).2.1 < (M.rdAt l at_).1) : M.rdText l at_ most = ([], 0, 3) := by
  unfold M.rdText; rw [if_neg (by simpa using h), if_pos h2]
theorem rdText_long {l : List UInt8} {at_ most : Int} (h : (M.rdAt l at_).2.2 = 0) (h2 : ¬ l.length - (M.rdAt l at_).2.1 < (M.rdAt l at_).1) (h3 : most < ((M.rdAt l at_).1 : Int)) : M.rdText l at_ most = ([], 0, 2) := by
  unfold M.rdText; rw [if_neg (by simpa using h), if_neg h2, if_pos h3]
theorem rdText_ok {l : List UInt8} {at_ most : Int} (h : (M.rdAt l at_).2.2 = 0) (h2 : ¬ l.length - (M.rdAt l at_).2.1 < (M.rdAt l at_).1) (h3 : ¬ most < ((M.rdAt l at_).1 : Int)) :
    M.rdText l at_ most = ((l.drop (M.rdAt l at_).2.1).take (M.rdAt l at_).1, (M.rdAt l at_).2.1 + (M.rdAt l at_).1, 0) := by
  unfold M.rdText; rw [if_neg (by simpa using h), if_neg h2, if_neg h3]

set_option maxRecDepth 100000 in
set_option maxHeartbeats 1000000 in
theorem readText_any (A : Option Addr) (n c B : Nat) (l : List UInt8) (at_ most : Int) (w : World) (h : Rd w B A n c l) (h1 : -9223372036854775808 ≤ at_) (h2 : at_ ≤ 9223372036854775807) (h3 : -9223372036854775808 ≤ most) (h4 : most ≤ 9223372036854775807) :
    Calls Tryd.prog 50 #[.slice A n c, .int .i64 at_, .int .i64 most] w (TellsT (M.rdText l at_ most) w) := by
  have hc := h.cap
  have hm := h.max
  have HN := Lib.hid h.len
  have HC := Lib.hid (readUvarint_any A n c B l at_ w h h1 h2)
  have HE := Lib.hid (M.rdAt_err l at_)
  have HO := Lib.hid (@M.rdAt_le l at_)
  have HK := Lib.hid (@M.rdAt_ok l at_)
  have HT1 := Lib.hid (@rdText_err l at_ most)
  have HT2 := Lib.hid (@rdText_form l at_ most)
  have HT3 := Lib.hid (@rdText_long l at_ most)
  have HT4 := Lib.hid (@rdText_ok l at_ most)
  generalize M.rdAt l at_ = r at *
  obtain ⟨v, f, x⟩ := r
  simp only at HE HO HK HT1 HT2 HT3 HT4
  by_cases hx : x = 0
  · subst hx
    have hf := HO.out rfl
    have hv : v < 18446744073709551616 := by
      obtain ⟨_, _, _, _, hv, _⟩ := HK.out rfl
      simpa using hv
    have hn := HN.out
    have hfn : f ≤ n := by omega
    have hkf := hf.1
    have hat := hf.2.2.2
    have hn0 : 0 < n := by omega
    obtain ⟨b, off, rfl, hb, _⟩ := h.2.2.2 hn0
    clear hn hf
    by_cases hl : n - f < v
    · have HT := Lib.hid (HT2.out rfl (by rw [← HN.out]; exact hl))
      go_enter Tryd.func50, Tryd.ntmps50
      go_wp2_with fail
      refine HC.out.mono ?_
      rintro e w1 ⟨rfl, rfl⟩
      go_wp2
      go_ret3
      exact ⟨by rw [HT.out]; rfl, Below.refl _ _⟩
    · by_cases hmo : most < (v : Int)
      · have HT := Lib.hid (HT3.out rfl (by rw [← HN.out]; exact hl) hmo)
        go_enter Tryd.func50, Tryd.ntmps50
        go_wp2_with fail
        refine HC.out.mono ?_
        rintro e w1 ⟨rfl, rfl⟩
        go_wp2
        go_ret3
        exact ⟨by rw [HT.out]; rfl, Below.refl _ _⟩
      · have HT := Lib.hid (HT4.out rfl (by rw [← HN.out]; exact hl) hmo)
        have hrd2 := h.cut (i := f) (k := f + v) (by omega) (by omega)
        by_cases hcf : c = f
        · obtain rfl : v = 0 := by omega
          rw [if_pos hcf, List.drop_take, Nat.add_sub_cancel_left, show c - f = 0 from by omega] at hrd2
          have hs := run_str (P := Tryd.prog) w _ 27 9 5 Tryd.underlying27 Tryd.underlying5 Tryd.underlying9 _ _ _ _ hrd2
          subst hcf
          go_enter Tryd.func50, Tryd.ntmps50
          go_wp2_with fail
          refine HC.out.mono ?_
          rintro e w1 ⟨rfl, rfl⟩
          go_wp2
          go_ret3
          exact ⟨by rw [HT.out]; rfl, Below.refl _ _⟩
        · rw [if_neg hcf, List.drop_take, Nat.add_sub_cancel_left] at hrd2
          simp only [Option.map_some, add_none] at hrd2
          have hs := run_str (P := Tryd.prog) w _ 27 9 5 Tryd.underlying27 Tryd.underlying5 Tryd.underlying9 _ _ _ _ hrd2
          go_enter Tryd.func50, Tryd.ntmps50
          go_wp2_with fail
          refine HC.out.mono ?_
          rintro e w1 ⟨rfl, rfl⟩
          go_wp2
          go_ret3
          exact ⟨by rw [HT.out]; simp only [Int.natCast_add]; rfl, Below.refl _ _⟩
  · have HT := Lib.hid (HT1.out hx)
    have hbx : ((x : Int) != 0) = true := by rw [bne_iff_ne]; omega
    go_enter Tryd.func50, Tryd.ntmps50
    go_wp2_with fail
    refine HC.out.mono ?_
    rintro e w1 ⟨rfl, rfl⟩
    go_wp2
    go_ret3
    exact ⟨by rw [HT.out]; rfl, Below.refl _ _⟩
set_option maxRecDepth 100000 in
set_option maxHeartbeats 1000000 in
theorem ref_readText_any (A : Option Addr) (n c B : Nat) (l : List UInt8) (at_ most : Int) (w : World) (h : Rd w B A n c l) (hB : B ≤ w.heap.size) (h1 : -9223372036854775808 ≤ at_) (h2 : at_ ≤ 9223372036854775807) (h3 : -9223372036854775808 ≤ most) (h4 : most ≤ 9223372036854775807) :
    Calls Tryd.prog 28 #[.slice A n c, .int .i64 at_, .int .i64 most] w (TellsT (M.rdText l at_ most) w) := by
  have hc := h.cap
  have hm := h.max
  have HN := Lib.hid h.len
  have HC := Lib.hid (ref_readUvarint_any A n c B l at_ w h hB h1 h2)
  have HE := Lib.hid (M.rdAt_err l at_)
  have HO := Lib.hid (@M.rdAt_le l at_)
  have HK := Lib.hid (@M.rdAt_ok l at_)
  have HT1 := Lib.hid (@rdText_err l at_ most)
  have HT2 := Lib.hid (@rdText_form l at_ most)
  have HT3 := Lib.hid (@rdText_long l at_ most)
  have HT4 := Lib.hid (@rdText_ok l at_ most)
  generalize M.rdAt l at_ = r at *
  obtain ⟨v, f, x⟩ := r
  simp only at HE HO HK HT1 HT2 HT3 HT4
  by_cases hx : x = 0
  · subst hx
    have hf := HO.out rfl
    have hv : v < 18446744073709551616 := by
      obtain ⟨_, _, _, _, hv, _⟩ := HK.out rfl
      simpa using hv
    have hn := HN.out
    have hfn : f ≤ n := by omega
    have hkf := hf.1
    have hat := hf.2.2.2
    have hn0 : 0 < n := by omega
    obtain ⟨b, off, rfl, hb, _⟩ := h.2.2.2 hn0
    clear hn hf
    by_cases hl : n - f < v
    · have HT := Lib.hid (HT2.out rfl (by rw [← HN.out]; exact hl))
      go_enter Tryd.func28, Tryd.ntmps28
      go_wp2_with fail
      refine HC.out.mono ?_
      rintro e w1 ⟨rfl, hb1⟩
      go_wp2
      go_ret3
      exact ⟨by rw [HT.out]; rfl, hb1⟩
    · by_cases hmo : most < (v : Int)
      · have HT := Lib.hid (HT3.out rfl (by rw [← HN.out]; exact hl) hmo)
        go_enter Tryd.func28, Tryd.ntmps28
        go_wp2_with fail
        refine HC.out.mono ?_
        rintro e w1 ⟨rfl, hb1⟩
        go_wp2
        all_goals
          go_ret3
          exact ⟨by rw [HT.out]; rfl, hb1⟩
      · have HT := Lib.hid (HT4.out rfl (by rw [← HN.out]; exact hl) hmo)
        have hrd2 := h.cut (i := f) (k := f + v) (by omega) (by omega)
        by_cases hcf : c = f
        · obtain rfl : v = 0 := by omega
          rw [if_pos hcf, List.drop_take, Nat.add_sub_cancel_left, show c - f = 0 from by omega] at hrd2
          have hs := fun w1 hb1 => run_str (P := Tryd.prog) w1 _ 27 9 5 Tryd.underlying27 Tryd.underlying5 Tryd.underlying9 _ _ _ _ (hrd2.below (Below.mono hb1 hB))
          subst hcf
          go_enter Tryd.func28, Tryd.ntmps28
          go_wp2_with fail
          refine HC.out.mono ?_
          rintro e w1 ⟨rfl, hb1⟩
          go_wp2
          go_ret3
          exact ⟨by rw [HT.out]; rfl, hb1⟩
        · rw [if_neg hcf, List.drop_take, Nat.add_sub_cancel_left] at hrd2
          simp only [Option.map_some, add_none] at hrd2
          have hs := fun w1 hb1 => run_str (P := Tryd.prog) w1 _ 27 9 5 Tryd.underlying27 Tryd.underlying5 Tryd.underlying9 _ _ _ _ (hrd2.below (Below.mono hb1 hB))
          go_enter Tryd.func28, Tryd.ntmps28
          go_wp2_with fail
          refine HC.out.mono ?_
          rintro e w1 ⟨rfl, hb1⟩
          go_wp2
          go_ret3
          exact ⟨by rw [HT.out]; simp only [Int.natCast_add]; rfl, hb1⟩
  · have HT := Lib.hid (HT1.out hx)
    have hbx : ((x : Int) != 0) = true := by rw [bne_iff_ne]; omega
    go_enter Tryd.func28, Tryd.ntmps28
    go_wp2_with fail
    refine HC.out.mono ?_
    rintro e w1 ⟨rfl, hb1⟩
    go_wp2
    go_ret3
    exact ⟨by rw [HT.out]; rfl, hb1⟩
end Go.Proofs.YtjdkpcibdjhdoaaDoor
