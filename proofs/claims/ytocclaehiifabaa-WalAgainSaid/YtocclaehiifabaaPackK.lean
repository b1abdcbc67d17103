/-
  What the document's ReadFrame does, by a contract: it answers 'M.rdFrame' of the bytes and the place, the payload where it stands.
-/
import Derived.Test.YtocclaehiifabaaPackJ
import Derived.Deep.RegionHeld
namespace Go.Proofs.Ytocclaehiifabaa
open Go.RowKit Mem

set_option maxRecDepth 100000 in
set_option maxHeartbeats 2000000 in
theorem ref_readFrame_any (A : Option Addr) (n c B : Nat) (l : List UInt8) (at_ : Int) (w : World) (h : Rd w B A n c l) (hB : B ≤ w.heap.size) (hnz : n ≤ 140737488355328) (h1 : -9223372036854775808 ≤ at_) (h2 : at_ ≤ 9223372036854775807) :
    Calls Try.prog 29 #[.slice A n c, .int .i64 at_] w (TellsF (M.rdFrame l at_) w) := by
  have hc := h.cap
  have hm := h.max
  have HN := Lib.hid h.len
  have HNIL := Lib.hid (show ∀ W : World, Rd W W.heap.size none 0 0 [] from fun W => Rd.empty (by simp [maxLen]))
  by_cases hneg : at_ < 0
  · have HT := Lib.hid (rdF_arg (l := l) (.inl hneg))
    go_enter Try.func29, Try.ntmps29
    go_wp2
    go_ret3
    exact ⟨none, 0, 0, by rw [HT.out]; rfl, by rw [HT.out]; exact HNIL.out _, Below.refl _ _⟩
  by_cases hbig : (n : Int) < at_
  · have HT := Lib.hid (rdF_arg (l := l) (a := at_) (.inr (by have := HN.out; omega)))
    have hd : decide (at_ < 0) = false := by simpa using hneg
    go_enter Try.func29, Try.ntmps29
    go_wp2
    go_ret3
    exact ⟨none, 0, 0, by rw [HT.out]; rfl, by rw [HT.out]; exact HNIL.out _, Below.refl _ _⟩
  obtain ⟨k, rfl⟩ := Int.eq_ofNat_of_zero_le (show 0 ≤ at_ by omega)
  by_cases hkn : k = n
  · have HT := Lib.hid (rdF_none (l := l) (k := k) (by have := HN.out; omega))
    have hq : ((k : Int) == (n : Int)) = true := by simp; omega
    have hle : ¬ (n : Int) < (k : Int) := by omega
    have HKN := Lib.hid hkn
    clear hkn
    go_enter Try.func29, Try.ntmps29
    go_wp2
    go_ret3
    exact ⟨none, 0, 0, by rw [HT.out]; rfl, by rw [HT.out]; exact HNIL.out _, Below.refl _ _⟩
  have hlt : k < n := by omega
  have hq : ((k : Int) == (n : Int)) = false := by simp; omega
  have HKL := Lib.hid (show k < l.length by have := HN.out; omega)
  obtain ⟨b, off, rfl, hb, hcells⟩ := h.2.2.2 (by omega)
  have HC := Lib.hid hcells
  clear hcells
  have hcell := HC.out k hlt
  rw [show (l[k]?.getD 0).toNat = M.at8 l k from rfl] at hcell
  obtain ⟨y, hy⟩ : ∃ y, y = M.at8 l k := ⟨_, rfl⟩
  have hy256 : y < 256 := by rw [hy]; exact M.at8_lt _ _
  rw [← hy] at hcell
  have HY := Lib.hid hy
  clear hy
  by_cases h241 : y = 241
  · have hy' : ((y : Int) != 241) = false := by simp; omega
    have H241 := Lib.hid (show M.at8 l k = 241 by rw [← HY.out]; exact h241)
    clear h241
    have HU := Lib.hid (ref_readUvarint_any _ n c B l ((k : Int) + 1) w h hB (by omega) (by omega))
    have HO := Lib.hid (@M.rdAt_le l ((k : Int) + 1))
    obtain ⟨r, hr⟩ : ∃ r, r = M.rdAt l ((k : Int) + 1) := ⟨_, rfl⟩
    rw [← hr] at HU HO
    have HR := Lib.hid hr.symm
    clear hr
    obtain ⟨v, f, x⟩ := r
    by_cases hx : x = 0
    · subst hx
      have hf := HO.out rfl
      simp only at hf
      have hkf : k + 1 < f := by omega
      have hfn : f ≤ n := by have := HN.out; omega
      clear hf HO
      by_cases hv : 65535 < v
      · have HT := Lib.hid (rdF_num HKL.out H241.out HR.out (.inr hv))
        go_enter Try.func29, Try.ntmps29
        go_wp2_with fail
        refine HU.out.mono ?_
        rintro e w1 ⟨rfl, hb1⟩
        have hcell1 := (hb1.cell (p := ⟨b, off + k, none⟩) (Nat.lt_of_lt_of_le hb hB)).trans hcell
        try have hcell3 := (hb1.cell (p := ⟨b, off + (f + v + 4), none⟩) (Nat.lt_of_lt_of_le hb hB)).trans hcell2
        go_wp2
        go_ret3
        exact ⟨none, 0, 0, by rw [HT.out]; rfl, by rw [HT.out]; exact HNIL.out _, hb1⟩
      by_cases hend : n ≤ f + 4 + v
      · have HT := Lib.hid (rdF_end HKL.out H241.out HR.out (by omega) (.inl (by have := HN.out; omega)))
        go_enter Try.func29, Try.ntmps29
        go_wp2_with fail
        refine HU.out.mono ?_
        rintro e w1 ⟨rfl, hb1⟩
        have hcell1 := (hb1.cell (p := ⟨b, off + k, none⟩) (Nat.lt_of_lt_of_le hb hB)).trans hcell
        try have hcell3 := (hb1.cell (p := ⟨b, off + (f + v + 4), none⟩) (Nat.lt_of_lt_of_le hb hB)).trans hcell2
        go_wp2
        go_ret3
        exact ⟨none, 0, 0, by rw [HT.out]; rfl, by rw [HT.out]; exact HNIL.out _, hb1⟩
      have hcell2 := HC.out (f + 4 + v) (by omega)
      rw [show (l[f + 4 + v]?.getD 0).toNat = M.at8 l (f + 4 + v) from rfl, show off + (f + 4 + v) = off + (f + v + 4) from by omega] at hcell2
      obtain ⟨z, hz⟩ : ∃ z, z = M.at8 l (f + 4 + v) := ⟨_, rfl⟩
      have hz256 : z < 256 := by rw [hz]; exact M.at8_lt _ _
      rw [← hz] at hcell2
      have HZ := Lib.hid hz
      clear hz
      by_cases h31 : z = 31
      · have hz' : ((z : Int) != 31) = false := by simp; omega
        have H31 := Lib.hid (show M.at8 l (f + 4 + v) = 31 by rw [← HZ.out]; exact h31)
        have HEL := Lib.hid (show f + 4 + v < l.length by have := HN.out; omega)
        clear h31
        have hcut := h.cut (i := f + 4) (k := f + 4 + v) (by omega) (by omega)
        rw [if_neg (by omega), List.drop_take, Nat.add_sub_cancel_left] at hcut
        simp only [Option.map_some, add_none] at hcut
        have hs1 := M.sum_lt ((l.drop (f + 4)).take v)
        have hs2 := M.be4_lt (l.drop f)
        obtain ⟨S1, hS1⟩ : ∃ s, s = M.sum ((l.drop (f + 4)).take v) := ⟨_, rfl⟩
        obtain ⟨S2, hS2⟩ : ∃ s, s = M.be4 (l.drop f) := ⟨_, rfl⟩
        rw [← hS1] at hs1
        rw [← hS2] at hs2
        have HS1 := Lib.hid hS1
        have HS2 := Lib.hid hS2
        clear hS1 hS2
        have hck : ¬ c = f + 4 := by omega
        have HBE := Lib.hid (M.be4_iff (l.drop f) (by simp; have := HN.out; omega) S1 hs1)
        have hcut4 := h.cut (i := f) (k := f + 4) (by omega) (by omega)
        rw [if_neg (by omega), List.drop_take, Nat.add_sub_cancel_left] at hcut4
        simp only [Option.map_some, add_none] at hcut4
        have hck2 : ¬ c = f := by omega
        go_enter Try.func29, Try.ntmps29
        go_wp2_with fail
        refine HU.out.mono ?_
        rintro e w1 ⟨rfl, hb1⟩
        have hcell1 := (hb1.cell (p := ⟨b, off + k, none⟩) (Nat.lt_of_lt_of_le hb hB)).trans hcell
        have hcell3 := (hb1.cell (p := ⟨b, off + (f + v + 4), none⟩) (Nat.lt_of_lt_of_le hb hB)).trans hcell2
        have hcut1 := hcut.below (hb1.mono hB)
        have hcut41 := hcut4.below (hb1.mono hB)
        have hcutB : Rd w1 B (some ⟨b, off + (f + 4), none⟩) (f + 4 + v - (f + 4)) (c - (f + 4)) ((l.drop (f + 4)).take v) := by
          rw [Nat.add_sub_cancel_left]; exact hcut1
        go_wp2_with fail
        clear HU hcell2 hcell3
        have hw1 : IntKind.i64.wrap ((f : Int) + 4) = (f : Int) + 4 := IntWalk.i64_in _ (by omega)
        have hw2 : (0 : Int) ≤ (f : Int) + 4 := by omega
        have hw3 : ((f : Int) + 4).toNat = f + 4 := by omega
        have hw4 : (f : Int) + 4 ≤ (c : Int) := by omega
        go_region_held (fun W => (convert 22 9 (.slice (some ⟨b, off + f, none⟩) 4 (c - f))).run Try.prog W = .ok (.string ⟨((l.drop f).take 4).toArray⟩) W)
          (first
            | exact hHeld
            | exact run_str (P := Try.prog) _ _ 22 9 5 Try.underlying22 Try.underlying5 Try.underlying9 _ _ _ _ hcut41.drew
            | exact run_str (P := Try.prog) _ _ 22 9 5 Try.underlying22 Try.underlying5 Try.underlying9 _ _ _ _ hk4)
          (first
            | (go_at_call 49; refine (ref_sum_any _ _ _ B ((l.drop (f + 4)).take v) _ ?_).mono ?_; (first | exact hcut1.drew | exact hcutB.drew); rintro e w3 ⟨rfl, rfl⟩; rw [← HS1.out])
            | (go_at_call 48; refine (ref_four_any S1 _ hs1).mono ?_; rintro e w4 ⟨q, rfl, hown4, hb4⟩; obtain ⟨A4, c4, rfl, hrd4⟩ := hown4.open_; have hk4 := hcut41.drew.below (hb4.mono (Nat.le_trans hB hb1.size)); have hs4 := run_str (P := Try.prog) w4 _ 22 9 5 Try.underlying22 Try.underlying5 Try.underlying9 A4 _ c4 _ hrd4))
        clear hw1 hw2 hw3 hw4
        have hb14 := hb1.trans ((below_undrew hb4).mono hb1.size)
        go_wp2
        · have hq : (!(M.four S1 == (l.drop f).take 4)) = true := by assumption
          have HT := Lib.hid (rdF_sum HKL.out H241.out HR.out (by omega) HEL.out H31.out (by
            rw [← HS1.out]
            intro hs
            rw [HBE.out.1 hs.symm] at hq
            simp at hq))
          go_ret3
          exact ⟨none, 0, 0, by rw [HT.out]; rfl, by rw [HT.out]; exact HNIL.out _, hb14⟩
        · have hq : (!(M.four S1 == (l.drop f).take 4)) = false := by assumption
          have HT := Lib.hid (rdF_ok HKL.out H241.out HR.out (by omega) HEL.out H31.out (by
            rw [← HS1.out]
            exact (HBE.out.2 (by simpa using hq)).symm))
          have hq4 := (h.below (hb14.mono hB)).cut (i := f + 4) (k := f + 4 + v) (by omega) (by omega)
          rw [if_neg (by omega), List.drop_take, Nat.add_sub_cancel_left] at hq4
          simp only [Option.map_some, add_none] at hq4
          go_ret3
          have hret : (((f + 4 + v + 1 : Nat) : Int)) = (f : Int) + 5 + (v : Int) := by omega
          exact ⟨some ⟨b, off + (f + 4), none⟩, v, c - (f + 4), by rw [HT.out]; simp only [hret]; rfl, by rw [HT.out]; exact hq4.more (Nat.le_trans hB hb14.size), hb14⟩
      · have hz' : ((z : Int) != 31) = true := by rw [bne_iff_ne]; omega
        have HT := Lib.hid (rdF_end HKL.out H241.out HR.out (by omega) (.inr (by rw [← HZ.out]; exact h31)))
        go_enter Try.func29, Try.ntmps29
        go_wp2_with fail
        refine HU.out.mono ?_
        rintro e w1 ⟨rfl, hb1⟩
        have hcell1 := (hb1.cell (p := ⟨b, off + k, none⟩) (Nat.lt_of_lt_of_le hb hB)).trans hcell
        try have hcell3 := (hb1.cell (p := ⟨b, off + (f + v + 4), none⟩) (Nat.lt_of_lt_of_le hb hB)).trans hcell2
        go_wp2
        go_ret3
        exact ⟨none, 0, 0, by rw [HT.out]; rfl, by rw [HT.out]; exact HNIL.out _, hb1⟩
    · have HT := Lib.hid (rdF_num HKL.out H241.out HR.out (.inl hx))
      have hbx : ((x : Int) != 0) = true := by rw [bne_iff_ne]; omega
      clear HO
      go_enter Try.func29, Try.ntmps29
      go_wp2_with fail
      refine HU.out.mono ?_
      rintro e w1 ⟨rfl, hb1⟩
      have hcell1 := (hb1.cell (p := ⟨b, off + k, none⟩) (Nat.lt_of_lt_of_le hb hB)).trans hcell
      go_wp2
      go_ret3
      exact ⟨none, 0, 0, by rw [HT.out]; rfl, by rw [HT.out]; exact HNIL.out _, hb1⟩
  · have HT := Lib.hid (rdF_head HKL.out (by rw [← HY.out]; exact h241))
    have hy' : ((y : Int) != 241) = true := by rw [bne_iff_ne]; omega
    have HU := Lib.hid (ref_readUvarint_any _ n c B l ((k : Int) + 1) w h hB (by omega) (by omega))
    go_enter Try.func29, Try.ntmps29
    go_wp2_with fail
    refine HU.out.mono ?_
    rintro e w1 ⟨rfl, hb1⟩
    have hcell1 := (hb1.cell (p := ⟨b, off + k, none⟩) (Nat.lt_of_lt_of_le hb hB)).trans hcell
    go_wp2
    go_ret3
    exact ⟨none, 0, 0, by rw [HT.out]; rfl, by rw [HT.out]; exact HNIL.out _, hb1⟩
end Go.Proofs.Ytocclaehiifabaa
