/-
  What the two Texts do, by contracts: each answers, in new memory, the text's length and its bytes.
-/
import Derived.Test.YtbilcokmdghioaaPackG
import Derived.Deep.RegionHeld
namespace Go.Proofs.Ytbilcokmdghioaa
open Go.RowKit Mem

set_option maxRecDepth 100000 in
set_option maxHeartbeats 1000000 in
theorem text_any (s : ByteArray) (w : World) (hs : s.size ≤ 140737488355000) : Calls Try.prog 22 #[.string s] w (Gives w (M.text s.data.toList)) := by
  obtain ⟨i0, hi, hz0, hz1, hz2⟩ := info_parts Try.info_byte
  have HI := Lib.hid hi; have HZ0 := Lib.hid hz0; have HZ1 := Lib.hid hz1; have HZ2 := Lib.hid hz2
  clear hi hz0 hz1 hz2
  have hul := M.uv_len s.size
  go_enter Try.func22, Try.ntmps22
  go_wp2_with fail
  refine (uvarint_any s.size _ (by omega)).mono ?_
  rintro e w1 ⟨q, rfl, hq, hb1⟩
  go_wp2_with (at_builtin; go_must (refine wpList_appS w1 rfl (.tmp 6) (.tmp 7) _ _ rfl w.heap.size _ i0 Try.underlying24 Try.underlying9 HI.out HZ0.out HZ1.out HZ2.out _ _ hq rfl s rfl ?_ hb1.size ?_))
  · omega
  intro v2 w2 hv2 hg2
  go_wp2
  go_ret
  refine ⟨_, rfl, ?_, hb1.trans (below_own hq hb1.size hg2)⟩
  have e : M.text s.data.toList = M.uv s.size ++ s.data.toList := by simp [M.text]
  rw [e]
  exact hv2

set_option maxRecDepth 100000 in
set_option maxHeartbeats 1000000 in
theorem ref_text_any (s : ByteArray) (w : World) (hs : s.size ≤ 140737488355000) : Calls Try.prog 23 #[.string s] w (Gives w (M.text s.data.toList)) := by
  obtain ⟨i0, hi, hz0, hz1, hz2⟩ := info_parts Try.info_byte
  have HI := Lib.hid hi; have HZ0 := Lib.hid hz0; have HZ1 := Lib.hid hz1; have HZ2 := Lib.hid hz2
  clear hi hz0 hz1 hz2
  have hul := M.uv_len s.size
  go_enter Try.func23, Try.ntmps23
  go_wp2_with fail
  refine (ref_uvarint_any s.size _ (by omega)).mono ?_
  rintro e w1 ⟨q, rfl, hq, hb1⟩
  go_wp2_with (at_builtin; go_must (refine wpList_appS w1 rfl (.tmp 8) (.tmp 9) _ _ rfl w.heap.size _ i0 Try.underlying24 Try.underlying9 HI.out HZ0.out HZ1.out HZ2.out _ _ hq rfl s rfl ?_ hb1.size ?_))
  · omega
  intro v2 w2 hv2 hg2
  go_wp2
  go_ret
  refine ⟨_, rfl, ?_, hb1.trans (below_own hq hb1.size hg2)⟩
  have e : M.text s.data.toList = M.uv s.size ++ s.data.toList := by simp [M.text]
  rw [e]
  exact hv2

set_option maxRecDepth 100000 in
set_option maxHeartbeats 4000000 in
theorem packTexts_any (A : Option Addr) (n c : Nat) (l : List UInt8) (s : ByteArray) (A' : Option Addr) (n' c' : Nat) (l' : List UInt8) (w : World)
    (h : Rd w w.heap.size A n c l) (h' : Rd w w.heap.size A' n' c' l') (hz : c ≤ 1048576) (hzs : s.size ≤ 1048576) (hz' : c' ≤ 1048576) :
    Calls Try.prog 5 #[.slice A n c, .string s, .slice A' n' c'] w (Yes w) := by
  obtain ⟨i0, hi, hz0, hz1, hz2⟩ := info_parts Try.info_byte
  have HI := Lib.hid hi; have HZ0 := Lib.hid hz0; have HZ1 := Lib.hid hz1; have HZ2 := Lib.hid hz2
  clear hi hz0 hz1 hz2
  have hc := h.cap
  have hc' := h'.cap
  have HN := Lib.hid h.len
  have HN' := Lib.hid h'.len
  have hul := M.uv_len s.size
  have HT1 := Lib.hid (M.rdText_text l s.data.toList l' s.size (by simp; omega))
  have HT2 := Lib.hid (M.rdText_text l s.data.toList l' ((s.size : Int) - 1) (by simp; omega))
  have HTL := Lib.hid (show (M.text s.data.toList).length = (M.uv s.size).length + s.size by simp [M.text])
  go_enter Try.func5, Try.ntmps5
  go_wp2_with fail
  refine (awake_any w).mono ?_
  rintro e w1 ⟨rfl, hb1⟩
  have r1 := h.below hb1
  go_wp2_with (at_builtin; go_must (refine wpList_app w1 rfl (.tmp 17) (.tmp 18) _ rfl w1.heap.size _ _ i0 Try.underlying24 HI.out HZ0.out HZ1.out HZ2.out _ [] (Own.nil _ _ _) rfl _ _ _ _ r1 rfl ?_ (Nat.le_refl _) ?_))
  · have := HN.out; simp; omega
  intro v2 w2 hv2 hg2 _
  have hb2 := below_own (Own.nil w1 w1.heap.size 5) (Nat.le_refl _) hg2
  have hB2 := hb1.trans (hb2.mono hb1.size)
  go_wp2_with fail
  refine (text_any s w2 (by omega)).mono ?_
  rintro e w3 ⟨v3, rfl, hv3, hb3⟩
  have hv2' := hv2.below hb3
  have hB3 := hB2.trans (hb3.mono hB2.size)
  obtain ⟨A3, c3, rfl, hr3⟩ := hv3.open_
  go_wp2_with (at_builtin; go_must (refine wpList_app w3 rfl (.tmp 20) (.tmp 22) _ rfl w1.heap.size _ _ i0 Try.underlying24 HI.out HZ0.out HZ1.out HZ2.out _ _ hv2' rfl _ _ _ _ hr3 rfl ?_ (Nat.le_trans hb2.size hb3.size) ?_))
  · have := HN.out; have := HTL.out; omega
  intro v4 w4 hv4 hg4 _
  have hb4 := below_own hv2' (Nat.le_trans hb2.size hb3.size) hg4
  have hB4 := hB3.trans (hb4.mono hb1.size)
  have q4 := h'.below hB4
  obtain ⟨P4, hP4⟩ : ∃ P4, P4 = l ++ M.text s.data.toList := ⟨_, rfl⟩
  rw [← hP4] at hv4
  have hP4l : P4.length = n + (M.text s.data.toList).length := by rw [hP4, HN.out]; simp
  have HP4 := Lib.hid hP4
  clear hP4
  have hP4b : P4.length ≤ 2097200 := by have := HTL.out; omega
  have HP4L := Lib.hid hP4l
  clear hP4l
  have hsz4 : w1.heap.size ≤ w4.heap.size := Nat.le_trans (Nat.le_trans hb2.size hb3.size) hb4.size
  obtain ⟨A4, c4, rfl, hr4⟩ := hv4.open_
  go_wp2_with (at_builtin; go_must (refine wpList_app w4 rfl (.tmp 26) (.tmp 27) _ rfl w1.heap.size _ _ i0 Try.underlying24 HI.out HZ0.out HZ1.out HZ2.out _ _ hv4 rfl _ _ _ _ q4 rfl ?_ hsz4 ?_))
  · have := HN'.out; omega
  intro v5 w5 hv5 hg5 _
  have hb5 := below_own hv4 hsz4 hg5
  have hB5 := hB4.trans (hb5.mono hb1.size)
  have hwhole : P4 ++ l' = l ++ (M.text s.data.toList ++ l') := by rw [HP4.out, List.append_assoc]
  rw [hwhole] at hv5
  clear hwhole
  obtain ⟨WH, hWH⟩ : ∃ WH, WH = l ++ (M.text s.data.toList ++ l') := ⟨_, rfl⟩
  rw [← hWH] at hv5 HT1 HT2
  clear hWH
  obtain ⟨A5, c5, rfl, hr5⟩ := hv5.open_
  go_wp2_with fail
  refine (readText_any A5 _ c5 _ WH n s.size w5 hr5 (by omega) (by omega) (by omega) (by omega)).mono ?_
  rintro e w6 ⟨rfl, hb6⟩
  have e1 : M.rdText WH n s.size = (s.data.toList, P4.length, 0) := by
    have := HT1.out
    rw [← HN.out] at this
    rw [this, if_neg (by simp), HP4L.out]
  rw [e1]
  clear e1
  have hB6 := hB5.trans (hb6.mono hB5.size)
  have hr6 := hr5.below hb6
  go_wp2_with fail
  refine (readText_any A5 _ c5 _ WH n ((s.size : Int) - 1) w6 hr6 (by omega) (by omega) (by omega) (by omega)).mono ?_
  rintro e w7 ⟨rfl, hb7⟩
  have e2 : M.rdText WH n ((s.size : Int) - 1) = ([], 0, 2) := by
    have := HT2.out
    rw [← HN.out] at this
    rw [this, if_pos (by simp; omega)]
  rw [e2]
  clear e2
  have hB7 := hB6.trans (hb7.mono hB6.size)
  simp only
  clear hr5 hr6 hv5 hv4 hr4 hv2 hv2' hv3 hr3 r1
  go_wp2_with fail
  go_region_held (fun _ => True) (trivial)
    (first
      | (go_at_call 22; refine (text_any s _ (by omega)).mono ?_; rintro e w8 ⟨q, rfl, hown8, hb8⟩; obtain ⟨A8, c8, rfl, hrd8⟩ := hown8.open_; have hs8 := run_str (P := Try.prog) w8 _ 24 9 5 Try.underlying24 Try.underlying5 Try.underlying9 A8 _ c8 _ hrd8)
      | (go_at_call 23; refine (ref_text_any s _ (by omega)).mono ?_; rintro e w9 ⟨q, rfl, hown9, hb9⟩; obtain ⟨A9, c9, rfl, hrd9⟩ := hown9.open_; have hs9 := run_str (P := Try.prog) w9 _ 24 9 5 Try.underlying24 Try.underlying5 Try.underlying9 A9 _ c9 _ hrd9; have hs89 := run_str (P := Try.prog) w9 _ 24 9 5 Try.underlying24 Try.underlying5 Try.underlying9 A8 _ c8 _ (hrd8.below hb9)))
  all_goals
    have hB8 := hB7.trans ((below_undrew hb8).mono hB7.size)
    go_wp2
    go_ret
    exact ⟨rfl, hB8.trans (hb9.mono hB8.size)⟩
end Go.Proofs.Ytbilcokmdghioaa
