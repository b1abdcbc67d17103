/-
  pack.ReadFrame hands back memory of its own: the contract of the text before, once more, with that.
-/
import Derived.Test.YtjdkpcibdjhdoaaDoorPackK
namespace Go.Proofs.YtjdkpcibdjhdoaaDoor
open Go.RowKit Mem

def TellsO (r : List UInt8 × Nat × Nat) (w : World) (e : Ending) (w' : World) : Prop :=
  ∃ A n c, e = .returned (.tuple #[.slice A n c, .int .i64 (r.2.1 : Int), .int .i64 (r.2.2 : Int)]) ∧ Own w' w.heap.size 5 (.slice A n c) r.1 ∧ Below w.heap.size w w'

set_option maxRecDepth 100000 in
set_option maxHeartbeats 2000000 in
theorem readFrame_own (A : Option Addr) (n c B : Nat) (l : List UInt8) (at_ : Int) (w : World) (h : Rd w B A n c l) (hB : B ≤ w.heap.size) (hnz : n ≤ 140737488355328) (h1 : -9223372036854775808 ≤ at_) (h2 : at_ ≤ 9223372036854775807) :
    Calls Tryd.prog 72 #[.slice A n c, .int .i64 at_] w (TellsO (M.rdFrame l at_) w) := by
  have hc := h.cap
  have hm := h.max
  have HN := Lib.hid h.len
  have HNIL := Lib.hid (show ∀ W : World, Own W w.heap.size 5 (.slice none 0 0) [] from fun W => Own.nil _ _ _)
  by_cases hneg : at_ < 0
  · have HT := Lib.hid (rdF_arg (l := l) (.inl hneg))
    go_enter Tryd.func72, Tryd.ntmps72
    go_wp2
    go_ret3
    exact ⟨none, 0, 0, by rw [HT.out]; rfl, by rw [HT.out]; exact HNIL.out _, Below.refl _ _⟩
  by_cases hbig : (n : Int) < at_
  · have HT := Lib.hid (rdF_arg (l := l) (a := at_) (.inr (by have := HN.out; omega)))
    have hd : decide (at_ < 0) = false := by simpa using hneg
    go_enter Tryd.func72, Tryd.ntmps72
    go_wp2
    go_ret3
    exact ⟨none, 0, 0, by rw [HT.out]; rfl, by rw [HT.out]; exact HNIL.out _, Below.refl _ _⟩
  obtain ⟨k, rfl⟩ := Int.eq_ofNat_of_zero_le (show 0 ≤ at_ by omega)
  by_cases hkn : k = n
  · have HT := Lib.hid (rdF_none (l := l) (k := k) (by have := HN.out; omega))
    have hq : ((k : Int) == (n : Int)) = true := by simp; omega
    have hle : ¬ (n : Int) < (k : Int) := by omega
    have HKN := Lib.hid hkn
    clear hkn
    go_enter Tryd.func72, Tryd.ntmps72
    go_wp2
    go_ret3
    exact ⟨none, 0, 0, by rw [HT.out]; rfl, by rw [HT.out]; exact HNIL.out _, Below.refl _ _⟩
  have hlt : k < n := by omega
  have hq : ((k : Int) == (n : Int)) = false := by simp; omega
  have HKL := Lib.hid (show k < l.length by have := HN.out; omega)
  obtain ⟨b, off, rfl, hb, hcells⟩ := h.2.2.2 (by omega)
  have HC := Lib.hid hcells
  clear hcells
  have hcell := HC.out k hlt
  rw [show (l[k]?.getD 0).toNat = M.at8 l k from rfl] at hcell
  obtain ⟨y, hy⟩ : ∃ y, y = M.at8 l k := ⟨_, rfl⟩
  have hy256 : y < 256 := by rw [hy]; exact M.at8_lt _ _
  rw [← hy] at hcell
  have HY := Lib.hid hy
  clear hy
  by_cases h241 : y = 241
  · have hy' : ((y : Int) != 241) = false := by simp; omega
    have H241 := Lib.hid (show M.at8 l k = 241 by rw [← HY.out]; exact h241)
    clear h241
    have HU := Lib.hid (readUvarint_any _ n c B l ((k : Int) + 1) w h (by omega) (by omega))
    have HO := Lib.hid (@M.rdAt_le l ((k : Int) + 1))
    obtain ⟨r, hr⟩ : ∃ r, r = M.rdAt l ((k : Int) + 1) := ⟨_, rfl⟩
    rw [← hr] at HU HO
    have HR := Lib.hid hr.symm
    clear hr
    obtain ⟨v, f, x⟩ := r
    by_cases hx : x = 0
    · subst hx
      have hf := HO.out rfl
      simp only at hf
      have hkf : k + 1 < f := by omega
      have hfn : f ≤ n := by have := HN.out; omega
      clear hf HO
      by_cases hv : 65535 < v
      · have HT := Lib.hid (rdF_num HKL.out H241.out HR.out (.inr hv))
        go_enter Tryd.func72, Tryd.ntmps72
        go_wp2_with fail
        refine HU.out.mono ?_
        rintro e w1 ⟨rfl, rfl⟩
        go_wp2
        go_ret3
        exact ⟨none, 0, 0, by rw [HT.out]; rfl, by rw [HT.out]; exact HNIL.out _, Below.refl _ _⟩
      by_cases hend : n ≤ f + 4 + v
      · have HT := Lib.hid (rdF_end HKL.out H241.out HR.out (by omega) (.inl (by have := HN.out; omega)))
        go_enter Tryd.func72, Tryd.ntmps72
        go_wp2_with fail
        refine HU.out.mono ?_
        rintro e w1 ⟨rfl, rfl⟩
        go_wp2
        go_ret3
        exact ⟨none, 0, 0, by rw [HT.out]; rfl, by rw [HT.out]; exact HNIL.out _, Below.refl _ _⟩
      have hcell2 := HC.out (f + 4 + v) (by omega)
      rw [show (l[f + 4 + v]?.getD 0).toNat = M.at8 l (f + 4 + v) from rfl] at hcell2
      obtain ⟨z, hz⟩ : ∃ z, z = M.at8 l (f + 4 + v) := ⟨_, rfl⟩
      have hz256 : z < 256 := by rw [hz]; exact M.at8_lt _ _
      rw [← hz] at hcell2
      have HZ := Lib.hid hz
      clear hz
      by_cases h31 : z = 31
      · have hz' : ((z : Int) != 31) = false := by simp; omega
        have H31 := Lib.hid (show M.at8 l (f + 4 + v) = 31 by rw [← HZ.out]; exact h31)
        have HEL := Lib.hid (show f + 4 + v < l.length by have := HN.out; omega)
        clear h31
        have hcut := h.cut (i := f + 4) (k := f + 4 + v) (by omega) (by omega)
        rw [if_neg (by omega), List.drop_take, Nat.add_sub_cancel_left] at hcut
        simp only [Option.map_some, add_none] at hcut
        have hs1 := M.sum_lt ((l.drop (f + 4)).take v)
        have hs2 := M.be4_lt (l.drop f)
        obtain ⟨S1, hS1⟩ : ∃ s, s = M.sum ((l.drop (f + 4)).take v) := ⟨_, rfl⟩
        obtain ⟨S2, hS2⟩ : ∃ s, s = M.be4 (l.drop f) := ⟨_, rfl⟩
        rw [← hS1] at hs1
        rw [← hS2] at hs2
        have HS1 := Lib.hid hS1
        have HS2 := Lib.hid hS2
        clear hS1 hS2
        have hck : ¬ c = f + 4 := by omega
        by_cases hs : S1 = S2
        · have hne : ((S1 : Int) != (S2 : Int)) = false := by simp; omega
          have HT := Lib.hid (rdF_ok HKL.out H241.out HR.out (by omega) HEL.out H31.out (by rw [← HS1.out, ← HS2.out]; exact hs))
          have HSS := Lib.hid hs
          clear hs
          go_enter Tryd.func72, Tryd.ntmps72
          go_wp2_with fail
          refine HU.out.mono ?_
          rintro e w1 ⟨rfl, rfl⟩
          go_wp2_with fail
          refine (sum_any _ _ _ _ _ _ hcut).mono ?_
          rintro e w1 ⟨rfl, rfl⟩
          rw [← HS1.out]
          go_wp2_with fail
          refine (readSum_any _ n c B l f w h (by omega)).mono ?_
          rintro e w1 ⟨rfl, rfl⟩
          rw [← HS2.out]
          go_wp2_with fail
          refine (cloneP_any _ _ _ _ _ _ hcut hB (by simp; omega)).mono ?_
          rintro e w2 ⟨q, rfl, hq, hb2⟩
          obtain ⟨A2, c2, hv2, hr2⟩ := hq.open_
          subst hv2
          go_wp2
          go_ret3
          have hret : (((f + 4 + v + 1 : Nat) : Int)) = (f : Int) + 4 + (v : Int) + 1 := by omega
          exact ⟨A2, _, c2, by rw [HT.out]; simp only [hret]; rfl, by rw [HT.out]; have := hq; rw [List.length_take, List.length_drop] at this; exact this, hb2⟩
        · have hne : ((S1 : Int) != (S2 : Int)) = true := by rw [bne_iff_ne]; omega
          have HT := Lib.hid (rdF_sum HKL.out H241.out HR.out (by omega) HEL.out H31.out (by rw [← HS1.out, ← HS2.out]; exact hs))
          go_enter Tryd.func72, Tryd.ntmps72
          go_wp2_with fail
          refine HU.out.mono ?_
          rintro e w1 ⟨rfl, rfl⟩
          go_wp2_with fail
          refine (sum_any _ _ _ _ _ _ hcut).mono ?_
          rintro e w1 ⟨rfl, rfl⟩
          rw [← HS1.out]
          go_wp2_with fail
          refine (readSum_any _ n c B l f w h (by omega)).mono ?_
          rintro e w1 ⟨rfl, rfl⟩
          rw [← HS2.out]
          go_wp2
          go_ret3
          exact ⟨none, 0, 0, by rw [HT.out]; rfl, by rw [HT.out]; exact HNIL.out _, Below.refl _ _⟩
      · have hz' : ((z : Int) != 31) = true := by rw [bne_iff_ne]; omega
        have HT := Lib.hid (rdF_end HKL.out H241.out HR.out (by omega) (.inr (by rw [← HZ.out]; exact h31)))
        go_enter Tryd.func72, Tryd.ntmps72
        go_wp2_with fail
        refine HU.out.mono ?_
        rintro e w1 ⟨rfl, rfl⟩
        go_wp2
        go_ret3
        exact ⟨none, 0, 0, by rw [HT.out]; rfl, by rw [HT.out]; exact HNIL.out _, Below.refl _ _⟩
    · have HT := Lib.hid (rdF_num HKL.out H241.out HR.out (.inl hx))
      have hbx : ((x : Int) != 0) = true := by rw [bne_iff_ne]; omega
      clear HO
      go_enter Tryd.func72, Tryd.ntmps72
      go_wp2_with fail
      refine HU.out.mono ?_
      rintro e w1 ⟨rfl, rfl⟩
      go_wp2
      go_ret3
      exact ⟨none, 0, 0, by rw [HT.out]; rfl, by rw [HT.out]; exact HNIL.out _, Below.refl _ _⟩
  · have HT := Lib.hid (rdF_head HKL.out (by rw [← HY.out]; exact h241))
    have hy' : ((y : Int) != 241) = true := by rw [bne_iff_ne]; omega
    go_enter Tryd.func72, Tryd.ntmps72
    go_wp2
    go_ret3
    exact ⟨none, 0, 0, by rw [HT.out]; rfl, by rw [HT.out]; exact HNIL.out _, Below.refl _ _⟩
end Go.Proofs.YtjdkpcibdjhdoaaDoor
