/-
  The law PackTorn, by the contracts: a frame that is cut short anywhere is none; whole it is one; with one byte of its sum or payload turned it isn't.
-/
import Derived.Test.YtbilcokmdghioaaPackK
import Derived.Test.YtbilcokmdghioaaPackSums
namespace Go.Proofs.Ytbilcokmdghioaa
open Go.RowKit Mem

set_option maxRecDepth 100000 in
set_option maxHeartbeats 4000000 in
theorem packTorn_any (A : Option Addr) (n c : Nat) (l : List UInt8) (A' : Option Addr) (n' c' : Nat) (l' : List UInt8) (cut at_ turn : Nat) (w : World)
    (h : Rd w w.heap.size A n c l) (h' : Rd w w.heap.size A' n' c' l') (_hz : c ≤ 140737488351232) (hz' : c' ≤ 140737488351232) (hcut : cut < 65536) (hat : at_ < 65536) (hturn : turn < 256) :
    Calls Try.prog 7 #[.slice A n c, .slice A' n' c', .int .u16 cut, .int .u16 at_, .int .u8 turn] w (Yes w) := by
  have hc := h.cap
  have hc' := h'.cap
  have HN := Lib.hid h.len
  have HN' := Lib.hid h'.len
  by_cases hn : 2000 < n
  · go_enter Try.func7, Try.ntmps7
    go_wp2_with fail
    refine (awake_any w).mono ?_
    rintro e w1 ⟨rfl, hb1⟩
    go_wp2_with fail
    refine (awake_any w1).mono ?_
    rintro e w2 ⟨rfl, hb2⟩
    go_wp2
    go_ret
    exact ⟨rfl, hb1.trans (hb2.mono hb1.size)⟩
  · obtain ⟨i0, hi, hz0, hz1, hz2⟩ := info_parts Try.info_byte
    have HI := Lib.hid hi; have HZ0 := Lib.hid hz0; have HZ1 := Lib.hid hz1; have HZ2 := Lib.hid hz2
    clear hi hz0 hz1 hz2
    have hul := M.uv_len l.length
    have HFL := Lib.hid (M.frame_len l)
    obtain ⟨F, hF⟩ : ∃ F, F = (M.frame l).length := ⟨_, rfl⟩
    have hF7 : 7 ≤ F := by rw [hF, HFL.out]; omega
    have hFn : F ≤ 2016 := by rw [hF, HFL.out]; have := HN.out; omega
    obtain ⟨k, hk⟩ : ∃ k, k = cut % F := ⟨_, rfl⟩
    have hkF : k < F := by rw [hk]; exact Nat.mod_lt _ (by omega)
    have hk' : (cut : Int) % (F : Int) = (k : Int) := by rw [hk]; push_cast; rfl
    clear hk
    have HTORN := Lib.hid (M.rdFrame_torn l (by have := HN.out; omega) k (by rw [← hF]; exact hkF))
    have HWHOLE := Lib.hid (M.rdFrame_frame l l' (by have := HN.out; omega))
    have HTURN := Lib.hid (M.rdFrame_turned l l' (by have := HN.out; omega))
    rw [← hF] at HFL HWHOLE
    have HF := Lib.hid hF
    clear hF
    go_enter Try.func7, Try.ntmps7
    go_wp2_with fail
    refine (awake_any w).mono ?_
    rintro e w1 ⟨rfl, hb1⟩
    have r1 := h.below hb1
    go_wp2_with fail
    refine (frame_any A n c _ l w1 r1 hb1.size (by omega)).mono ?_
    rintro e w2 ⟨v2, rfl, hv2, hb2⟩
    have hB2 := hb1.trans (hb2.mono hb1.size)
    obtain ⟨A2, c2, rfl, hr2⟩ := hv2.open_
    rw [← HF.out] at hv2 hr2 ⊢
    have hc2 := hr2.cap
    go_wp2_with fail
    refine (readFrame_any A2 k c2 _ ((M.frame l).take k) 0 w2 (hr2.upto (by omega)) (Nat.le_refl _) (by omega) (by omega) (by omega)).mono ?_
    rintro e w3 ⟨A3, n3, c3, rfl, _, hb3⟩
    have hB3 := hB2.trans (hb3.mono hB2.size)
    generalize M.rdFrame ((M.frame l).take k) 0 = r at *
    obtain ⟨rp, re, rx⟩ := r
    simp only at HTORN
    simp only
    have hrx : ((rx : Int) == 0) = false := by have := HTORN.out; simp; omega
    have hr3 := hr2.below hb3
    have q3 := h'.below hB3
    go_wp2_with (at_builtin; go_must (refine wpList_app w3 rfl (.tmp 59) (.tmp 60) _ rfl w3.heap.size _ _ i0 Try.underlying24 HI.out HZ0.out HZ1.out HZ2.out _ [] (Own.nil _ _ _) rfl _ _ _ _ hr3 rfl ?_ (Nat.le_refl _) ?_))
    · have := HF.out; simp; omega
    intro v4 w4 hv4 hg4 _
    have hb4 := below_own (Own.nil w3 w3.heap.size 5) (Nat.le_refl _) hg4
    have hB4 := hB3.trans (hb4.mono hB3.size)
    have q4 := h'.below hB4
    go_wp2_with (at_builtin; go_must (refine wpList_app w4 rfl (.tmp 62) (.tmp 63) _ rfl w3.heap.size _ _ i0 Try.underlying24 HI.out HZ0.out HZ1.out HZ2.out _ _ hv4 rfl _ _ _ _ q4 rfl ?_ hb4.size ?_))
    · have := HF.out; have := HN'.out; omega
    intro v5 w5 hv5 hg5 _
    have hb5 := below_own hv4 hb4.size hg5
    have hb35 := hb4.trans hb5
    have hB5 := hB3.trans (hb35.mono hB3.size)
    obtain ⟨WH, hWH⟩ : ∃ WH, WH = M.frame l ++ l' := ⟨_, rfl⟩
    rw [← hWH] at hv5 HWHOLE HTURN
    have hWlen : WH.length = F + n' := by rw [hWH, HF.out, HN'.out]; simp
    have hW1 : 0 < WH.length := by omega
    have hW2 : WH.length ≤ 140737488355328 := by omega
    have HWB := Lib.hid (show ∀ j, j < l.length + 4 → M.at8 WH (1 + (M.uv l.length).length + j) = M.at8 (M.four (M.sum l) ++ l) j by
      intro j hj
      rw [hWH]
      have e0 : M.frame l ++ l' = (241 :: M.uv l.length) ++ ((M.four (M.sum l) ++ l) ++ 31 :: l') := by simp [M.frame]
      rw [e0]
      simp only [M.at8]
      rw [List.getElem?_append_right (by simp; omega), List.getElem?_append_left (by simp [M.four_len]; omega)]
      congr 3
      simp; omega)
    have HWL := Lib.hid hWlen
    clear hWH hWlen
    obtain ⟨A5, c5', he5, hr5⟩ := hv5.open_
    obtain ⟨g, c5, rfl, hg1, hg2, hc5, hc5', hcell, hfz⟩ := hv5.form hW1
    injection he5 with he5 _ he6
    subst he5 he6
    have HCELL := Lib.hid hcell
    clear hcell
    go_wp2_with fail
    refine (readFrame_any _ _ _ _ WH 0 w5 hr5 (Nat.le_refl _) hW2 (by omega) (by omega)).mono ?_
    rintro e w6 ⟨A6, n6, c6, rfl, hr6, hb6⟩
    rw [HWHOLE.out] at hr6 ⊢
    simp only at hr6
    simp only
    have hB6 := hB5.trans (hb6.mono hB5.size)
    have p6 := h.below hB6
    have hs6 := run_str (P := Try.prog) w6 _ 24 9 5 Try.underlying24 Try.underlying5 Try.underlying9 _ _ _ _ hr6
    have hsp := run_str (P := Try.prog) w6 _ 24 9 5 Try.underlying24 Try.underlying5 Try.underlying9 _ _ _ _ p6
    by_cases ht : turn = 0
    · have ht' : ((turn : Int) == 0) = true := by simp; omega
      have HT := Lib.hid ht
      clear ht
      go_wp2
      go_ret
      exact ⟨rfl, hB6⟩
    · have ht' : ((turn : Int) == 0) = false := by simp; omega
      obtain ⟨U, hU⟩ : ∃ U, U = (M.uv l.length).length := ⟨_, rfl⟩
      have hFU : F = n + U + 6 := by rw [hU, HN.out]; exact HFL.out
      rw [← hU] at hul HTURN HWB
      have HU := Lib.hid hU
      have HFU := Lib.hid hFU
      have hFU1 : n + 6 ≤ F := by omega
      obtain ⟨j, hj⟩ : ∃ j, j = at_ % (n + 4) := ⟨_, rfl⟩
      have hj4 : j < n + 4 := by rw [hj]; exact Nat.mod_lt _ (by omega)
      have hj' : (at_ : Int) % ((n : Int) + 4) = (j : Int) := by rw [hj]; push_cast; rfl
      clear hj hU
      have hown6 := hv5.below hb6
      have hidx : F - n - 5 + j = 1 + U + j := by omega
      have hin : F - n - 5 + j < WH.length := by have := HWL.out; omega
      have hinI : (F : Int) - (n : Int) - 5 + (j : Int) < (WH.length : Int) := by omega
      have hcell6 := (hb6.cell (p := ⟨g, F - n - 5 + j, none⟩) hg2).trans (HCELL.out _ hin)
      have hfz6 := (hb6.frozen (p := ⟨g, F - n - 5 + j, none⟩) hg2).trans (hfz _)
      obtain ⟨x, hx⟩ : ∃ x, x = (WH[F - n - 5 + j]?.getD 0).toNat := ⟨_, rfl⟩
      have hx256 : x < 256 := by rw [hx]; exact UInt8.toNat_lt _
      rw [← hx] at hcell6
      have HX := Lib.hid (show x = M.at8 (M.four (M.sum l) ++ l) j by
        rw [hx, hidx]; exact HWB.out j (by have := HN.out; omega))
      have HIDX := Lib.hid hidx
      clear hx hFU hidx
      obtain ⟨y, hF', hT'⟩ : ∃ y : UInt8, bits BinOp.xor IntKind.u8 (x : Int) (turn : Int) = (y.toNat : Int) ∧ y.toNat ≠ x := by
        have hlt := Nat.xor_lt_two_pow (n := 8) hx256 hturn
        refine ⟨UInt8.ofNat (x ^^^ turn), by rw [u8_xor_nat _ _ hx256 hturn, M.toNat_of hlt], ?_⟩
        rw [M.toNat_of hlt]
        intro he
        exact ht (M.xor_cancel_left (a := x) (by simpa using he))
      have HF' := Lib.hid hF'
      have HR := Lib.hid (HTURN.out j (by have := HN.out; omega) y (by rw [← HX.out]; exact hT') (fun l k hk hb => sum_set l k hk y hb))
      rw [← HIDX.out] at HR
      clear hF' hT' HTURN HWB hfz
      go_wp2_with fail
      rw [HF'.out]
      have hown7 := hown6.stored (F - n - 5 + j) y
      obtain ⟨A7, c7, he7, hr7⟩ := hown7.open_
      rw [List.length_set] at he7 hr7
      injection he7 with he7 _ he8
      subst he7 he8
      have hB7 := hB6.setCell (p := ⟨g, F - n - 5 + j, none⟩) (Nat.le_trans hB3.size hg1) (.int .u8 (y.toNat : Int))
      refine (readFrame_any _ _ _ _ _ 0 _ hr7 (Nat.le_refl _) hW2 (by omega) (by omega)).mono ?_
      rintro e w8 ⟨A8, n8, c8, rfl, _, hb8⟩
      rw [HR.out]
      simp only
      go_wp2
      go_ret
      exact ⟨rfl, hB7.trans (hb8.mono hB7.size)⟩
end Go.Proofs.Ytbilcokmdghioaa
