/-
  The law PackFrames, by the contracts: the frame of every payload, and what is read at any place of any bytes.
-/
import Derived.Test.YtbilcokmdghioaaPackK
namespace Go.Proofs.Ytbilcokmdghioaa
open Go.RowKit Mem

set_option maxRecDepth 100000 in
set_option maxHeartbeats 4000000 in
theorem packFrames_any (A : Option Addr) (n c : Nat) (l : List UInt8) (A' : Option Addr) (n' c' : Nat) (l' : List UInt8) (at_ : Int) (w : World)
    (h : Rd w w.heap.size A n c l) (h' : Rd w w.heap.size A' n' c' l') (hz : c ≤ 140737488351232) (hz' : c' ≤ 140737488351232) (h1 : -9223372036854775808 ≤ at_) (h2 : at_ ≤ 9223372036854775807) :
    Calls Try.prog 6 #[.slice A n c, .slice A' n' c', .int .i64 at_] w (Yes w) := by
  have hc := h.cap
  have hc' := h'.cap
  have HN := Lib.hid h.len
  by_cases hn : n ≤ 65535
  · go_enter Try.func6, Try.ntmps6
    go_wp2_with fail
    refine (awake_any w).mono ?_
    rintro e w1 ⟨rfl, hb1⟩
    have r1 := h.below hb1
    go_wp2_with fail
    refine (frame_any A n c _ l w1 r1 hb1.size hn).mono ?_
    rintro e w2 ⟨v2, rfl, hv2, hb2⟩
    have hB2 := hb1.trans (hb2.mono hb1.size)
    have r2 := h.below hB2
    obtain ⟨A2, c2, rfl, hr2⟩ := hv2.open_
    go_wp2_with fail
    go_region_held (fun W => (convert 24 9 (.slice A2 (M.frame l).length c2)).run Try.prog W = .ok (.string ⟨(M.frame l).toArray⟩) W)
      (first
        | exact hHeld
        | exact run_str (P := Try.prog) _ _ 24 9 5 Try.underlying24 Try.underlying5 Try.underlying9 _ _ _ _ hr2.drew
        | exact run_str (P := Try.prog) _ _ 24 9 5 Try.underlying24 Try.underlying5 Try.underlying9 _ _ _ _ hk4)
      (first
        | (go_at_call 25; refine (ref_frame_any A n c _ l _ r2.drew hB2.size hn).mono ?_; rintro e w4 ⟨q, rfl, hown4, hb4⟩; obtain ⟨A4, c4, rfl, hrd4⟩ := hown4.open_; have hk4 := hr2.drew.below hb4; have hs4 := run_str (P := Try.prog) w4 _ 24 9 5 Try.underlying24 Try.underlying5 Try.underlying9 A4 _ c4 _ hrd4))
    have hB4 := hB2.trans ((below_undrew hb4).mono hB2.size)
    have q4 := h'.below hB4
    clear hk4 hs4 hrd4 hown4 hr2 hv2 r1 r2 hb2
    go_wp2_with fail
    refine (readFrame_any A' n' c' _ l' at_ _ q4 hB4.size (by omega) h1 h2).mono ?_
    rintro e w5 ⟨A5, n5, c5, rfl, hr5, hb5⟩
    have hB5 := hB4.trans (hb5.mono hB4.size)
    have q5 := h'.below hB5
    go_wp2_with fail
    refine (ref_readFrame_any A' n' c' _ l' at_ _ q5 hB5.size (by omega) h1 h2).mono ?_
    rintro e w6 ⟨A6, n6, c6, rfl, hr6, hb6⟩
    have hB6 := hB5.trans (hb6.mono hB5.size)
    have q6 := h'.below hB6
    have hr5' := hr5.below hb6
    have hs5 := run_str (P := Try.prog) w6 _ 24 9 5 Try.underlying24 Try.underlying5 Try.underlying9 _ _ _ _ hr5'
    have hs6 := run_str (P := Try.prog) w6 _ 24 9 5 Try.underlying24 Try.underlying5 Try.underlying9 _ _ _ _ hr6
    clear hr5 hr5' hr6
    generalize M.rdFrame l' at_ = r at *
    obtain ⟨rp, re, rx⟩ := r
    simp only at hs5 hs6
    simp only
    go_wp2_with fail
    refine (sum_any A' n' c' _ l' w6 q6).mono ?_
    rintro e w7 ⟨rfl, rfl⟩
    go_wp2_with fail
    refine (ref_sum_any A' n' c' _ l' w6 q6).mono ?_
    rintro e w7 ⟨rfl, rfl⟩
    go_wp2
    go_ret
    exact ⟨rfl, hB6⟩
  · have hz0 : decide ((0 : Int) < 0) = false := by decide
    go_enter Try.func6, Try.ntmps6
    go_wp2_with fail
    refine (awake_any w).mono ?_
    rintro e w1 ⟨rfl, hb1⟩
    go_wp2_with fail
    refine (frame_long A n c w1 (by omega) (by omega)).mono ?_
    rintro e w2 ⟨rfl, rfl⟩
    have hB4 := hb1
    have q4 := h'.below hB4
    go_wp2_with fail
    refine (readFrame_any A' n' c' _ l' at_ _ q4 hB4.size (by omega) h1 h2).mono ?_
    rintro e w5 ⟨A5, n5, c5, rfl, hr5, hb5⟩
    have hB5 := hB4.trans (hb5.mono hB4.size)
    have q5 := h'.below hB5
    go_wp2_with fail
    refine (ref_readFrame_any A' n' c' _ l' at_ _ q5 hB5.size (by omega) h1 h2).mono ?_
    rintro e w6 ⟨A6, n6, c6, rfl, hr6, hb6⟩
    have hB6 := hB5.trans (hb6.mono hB5.size)
    have q6 := h'.below hB6
    have hr5' := hr5.below hb6
    have hs5 := run_str (P := Try.prog) w6 _ 24 9 5 Try.underlying24 Try.underlying5 Try.underlying9 _ _ _ _ hr5'
    have hs6 := run_str (P := Try.prog) w6 _ 24 9 5 Try.underlying24 Try.underlying5 Try.underlying9 _ _ _ _ hr6
    clear hr5 hr5' hr6
    generalize M.rdFrame l' at_ = r at *
    obtain ⟨rp, re, rx⟩ := r
    simp only at hs5 hs6
    simp only
    go_wp2_with fail
    refine (sum_any A' n' c' _ l' w6 q6).mono ?_
    rintro e w7 ⟨rfl, rfl⟩
    go_wp2_with fail
    refine (ref_sum_any A' n' c' _ l' w6 q6).mono ?_
    rintro e w7 ⟨rfl, rfl⟩
    go_wp2
    go_ret
    exact ⟨rfl, hB6⟩
end Go.Proofs.Ytbilcokmdghioaa
