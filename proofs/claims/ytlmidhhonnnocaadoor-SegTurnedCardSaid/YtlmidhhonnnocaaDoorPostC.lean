/-
  What Less and Or of package post do, by contracts.
-/
import Derived.Test.YtlmidhhonnnocaaDoorPostB
namespace Go.Proofs.YtlmidhhonnnocaaDoor
open Go.RowKit Mem
set_option linter.unusedVariables false
set_option maxRecDepth 100000

set_option maxHeartbeats 4000000 in
theorem postLess_any (A : Option Addr) (n c : Nat) (a : List Int) (A' : Option Addr) (n' c' : Nat) (b : List Int) (w : World) (h : RdV w w.heap.size A n c (ints a)) (h' : RdV w w.heap.size A' n' c' (ints b)) (hl : a.length + b.length ≤ 1000000) :
    Calls Tryd.prog 83 #[.slice A n c, .slice A' n' c'] w (GivesI w (M.lessL a b)) := by
  obtain ⟨i0, hi, hz0, hz1, hz2⟩ := Tryd.info_int
  have HI := Lib.hid hi; have HZ0 := Lib.hid hz0; have HZ1 := Lib.hid hz1; have HZ2 := Lib.hid hz2
  clear hi hz0 hz1 hz2
  have HST := Lib.hid (Two.start (f := M.lessL) h h')
  have HAL := Lib.hid (show (M.lessL a b).length ≤ 1000000 by have := M.less_le a b; omega)
  clear h h' hl
  go_enter Tryd.func83, Tryd.ntmps83
  go_wp2
  go_loopw [0, 1, 5] (fun u v p wr => Two M.lessL a b w u v p wr) (fun u v _ _ => lenOf u + lenOf v)
  case atStart => exact HST.out
  case round =>
    obtain ⟨A, A', n, c, n', c', a', b', acc, rfl, rfl, HA, HB, HP, HF, HW⟩ := hrel
    rename World => wr
    have hc := HA.out.2.1
    have hm := HA.out.max
    have hc' := HB.out.2.1
    have hm' := HB.out.max
    have hna := HA.out.1
    have hnb := HB.out.1
    rw [ints_len] at hna hnb
    have HNA := Lib.hid hna
    have HNB := Lib.hid hnb
    clear hna hnb
    by_cases hn : 0 < n
    · by_cases hn' : 0 < n'
      · obtain ⟨g, off, x, ra, rfl, hg, hcell, rfl⟩ := head_at HA.out hn
        obtain ⟨g', off', y, rb, rfl, hg', hcell', rfl⟩ := head_at HB.out hn'
        have HTA := Lib.hid (tail_at HA.out)
        have HTB := Lib.hid (tail_at HB.out)
        by_cases hxy : x < y
        · have HF2 := Lib.hid (show M.lessL a b = (acc ++ [x]) ++ M.lessL ra (y :: rb) by rw [HF.out, M.less_lt hxy]; simp)
          have HRM := Lib.hid (show (acc.length + 1) * 8 ≤ 140737488355328 by
            have h1 := congrArg List.length HF2.out
            have h2 := HAL.out
            simp only [List.length_append, List.length_cons, List.length_nil] at h1
            omega)
          go_wp2_with fail
          go_quiet (fail)
          go_wp2_with (at_builtin; go_must (refine wpList_appI1 _ rfl (.tmp 26) (.tmp 30) _ rfl w.heap.size _ i0 Tryd.underlying42 HI.out HZ0.out HZ1.out HZ2.out _ acc (ownv_drewN HP.out _) rfl _ rfl HRM.out HW.out.size ?_))
          intro v' w1 hown' hgr
          have hb1 := OwnV.grown (ownv_drewN HP.out _) HW.out.size hgr
          have HB1 := Lib.hid (HW.out.trans (below_undrewN hb1))
          have HTA1 := Lib.hid (HTA.out.below (below_undrewN hb1))
          have HBB1 := Lib.hid (HB.out.below (below_undrewN hb1))
          obtain ⟨A3, c3, rfl, hc3, hm3⟩ := hown'.form
          have HO1 := Lib.hid hown'
          clear hown' hgr hb1 hcell hcell'
          by_cases hc1 : c = 1
          · subst hc1
            obtain rfl : n = 1 := by omega
            rw [if_pos rfl] at HTA1
            go_wp2
            exact ⟨⟨_, _, _, _, _, _, ra, y :: rb, acc ++ [x], rfl, rfl, HTA1, HBB1, HO1, HF2, HB1⟩, by simp only [lenOf]; omega⟩
          · rw [if_neg hc1] at HTA1
            go_wp2
            exact ⟨⟨_, _, _, _, _, _, ra, y :: rb, acc ++ [x], rfl, rfl, HTA1, HBB1, HO1, HF2, HB1⟩, by simp only [lenOf]; omega⟩
        · by_cases hyx : y < x
          · have HF2 := Lib.hid (show M.lessL a b = acc ++ M.lessL (x :: ra) rb by rw [HF.out, M.less_gt hyx])
            by_cases hc1 : c' = 1
            · subst hc1
              obtain rfl : n' = 1 := by omega
              rw [if_pos rfl] at HTB
              go_wp2_with fail
              go_quiet (fail)
              go_wp2_with fail
              go_quiet (fail)
              go_wp2
              exact ⟨⟨_, _, _, _, _, _, x :: ra, rb, acc, rfl, rfl, HA, HTB, HP, HF2, Lib.hid (bel_drewN HW.out _)⟩, by simp only [lenOf]; omega⟩
            · rw [if_neg hc1] at HTB
              go_wp2_with fail
              go_quiet (fail)
              go_wp2_with fail
              go_quiet (fail)
              go_wp2
              exact ⟨⟨_, _, _, _, _, _, x :: ra, rb, acc, rfl, rfl, HA, HTB, HP, HF2, Lib.hid (bel_drewN HW.out _)⟩, by simp only [lenOf]; omega⟩
          · obtain rfl : x = y := by omega
            have HF2 := Lib.hid (show M.lessL a b = acc ++ M.lessL ra rb by rw [HF.out, M.less_eq])
            go_wp2_with fail
            go_quiet (fail)
            go_wp2_with fail
            go_quiet (fail)
            clear hcell hcell'
            by_cases hc1 : c = 1
            · subst hc1
              obtain rfl : n = 1 := by omega
              rw [if_pos rfl] at HTA
              by_cases hc2 : c' = 1
              · subst hc2
                obtain rfl : n' = 1 := by omega
                rw [if_pos rfl] at HTB
                go_wp2_with fail
                go_quiet (fail)
                go_wp2
                exact ⟨⟨_, _, _, _, _, _, ra, rb, acc, rfl, rfl, HTA, HTB, HP, HF2, Lib.hid (bel_drewN (bel_drewN (bel_drewN HW.out _) _) _)⟩, by simp only [lenOf]; omega⟩
              · rw [if_neg hc2] at HTB
                go_wp2_with fail
                go_quiet (fail)
                go_wp2
                exact ⟨⟨_, _, _, _, _, _, ra, rb, acc, rfl, rfl, HTA, HTB, HP, HF2, Lib.hid (bel_drewN (bel_drewN (bel_drewN HW.out _) _) _)⟩, by simp only [lenOf]; omega⟩
            · rw [if_neg hc1] at HTA
              by_cases hc2 : c' = 1
              · subst hc2
                obtain rfl : n' = 1 := by omega
                rw [if_pos rfl] at HTB
                go_wp2_with fail
                go_quiet (fail)
                go_wp2
                exact ⟨⟨_, _, _, _, _, _, ra, rb, acc, rfl, rfl, HTA, HTB, HP, HF2, Lib.hid (bel_drewN (bel_drewN (bel_drewN HW.out _) _) _)⟩, by simp only [lenOf]; omega⟩
              · rw [if_neg hc2] at HTB
                go_wp2_with fail
                go_quiet (fail)
                go_wp2
                exact ⟨⟨_, _, _, _, _, _, ra, rb, acc, rfl, rfl, HTA, HTB, HP, HF2, Lib.hid (bel_drewN (bel_drewN (bel_drewN HW.out _) _) _)⟩, by simp only [lenOf]; omega⟩
      · obtain rfl : b' = [] := List.eq_nil_of_length_eq_zero (by have := HNB.out; omega)
        obtain rfl : n' = 0 := by omega
        have HF2 := Lib.hid (show M.lessL a b = acc ++ a' by rw [HF.out, M.less_nil'])
        have HRM := Lib.hid (show acc.length + a'.length ≤ 1000000 by have h1 := congrArg List.length HF2.out; have h2 := HAL.out; simp only [List.length_append] at h1; omega)
        go_wp2_with (at_builtin; go_must (refine wpList_appV wr rfl (.tmp 44) (.tmp 45) _ rfl w.heap.size w.heap.size _ i0 (.int .i64 0) 8 Tryd.underlying42 HI.out HZ0.out HZ1.out HZ2.out rfl _ (ints acc) HP.out rfl _ _ _ (ints a') HA.out rfl (ints_one _) (by rw [ints_len, ints_len]; have := HRM.out; omega) (by rw [ints_len, ints_len]; have := HRM.out; omega) HW.out.size ?_))
        intro v' w1 hown' hgr hat
        have hb1 := HW.out.trans (OwnV.grown HP.out HW.out.size hgr)
        have hown2 := own_join hown' HF2.out
        obtain ⟨A3, n3, c3, rfl, HN3, hc3, hm3⟩ := own_form hown2
        have HO2 := Lib.hid hown2
        clear hown' hown2
        go_wp2
        go_ret
        exact ⟨_, rfl, HO2.out, hb1⟩
    · obtain rfl : a' = [] := List.eq_nil_of_length_eq_zero (by have := HNA.out; omega)
      obtain rfl : n = 0 := by omega
      have HF2 := Lib.hid (show M.lessL a b = acc ++ [] by rw [HF.out, M.less_nil])
      have HRM := Lib.hid (show acc.length + ([] : List Int).length ≤ 1000000 by have h1 := congrArg List.length HF2.out; have h2 := HAL.out; simp only [List.length_append] at h1; omega)
      go_wp2_with (at_builtin; go_must (refine wpList_appV wr rfl (.tmp 44) (.tmp 45) _ rfl w.heap.size w.heap.size _ i0 (.int .i64 0) 8 Tryd.underlying42 HI.out HZ0.out HZ1.out HZ2.out rfl _ (ints acc) HP.out rfl _ _ _ (ints []) HA.out rfl (ints_one _) (by rw [ints_len, ints_len]; have := HRM.out; omega) (by rw [ints_len, ints_len]; have := HRM.out; omega) HW.out.size ?_))
      intro v' w1 hown' hgr hat
      have hb1 := HW.out.trans (OwnV.grown HP.out HW.out.size hgr)
      have hown2 := own_join hown' HF2.out
      obtain ⟨A3, n3, c3, rfl, HN3, hc3, hm3⟩ := own_form hown2
      have HO2 := Lib.hid hown2
      clear hown' hown2
      go_wp2
      go_ret
      exact ⟨_, rfl, HO2.out, hb1⟩

theorem or_min (x y : Int) (ra rb : List Int) : M.orL (x :: ra) (y :: rb) = min x y :: M.orL (M.behind x (min x y) ra) (M.behind y (min x y) rb) := by
  rcases Int.lt_trichotomy x y with h | rfl | h
  · rw [M.or_lt h, show min x y = x by omega]; unfold M.behind; rw [if_pos rfl, if_neg (by omega)]
  · rw [M.or_eq, show min x x = x by omega]; unfold M.behind; rw [if_pos rfl, if_pos rfl]
  · rw [M.or_gt h, show min x y = y by omega]; unfold M.behind; rw [if_pos rfl, if_neg (by omega)]
theorem behind_len (x y : Int) (ra rb : List Int) : (M.behind x (min x y) ra).length + (M.behind y (min x y) rb).length < ra.length + 1 + (rb.length + 1) := by
  unfold M.behind
  rcases Int.lt_trichotomy x y with h | rfl | h
  · rw [if_pos (by omega), if_neg (by omega)]; simp only [List.length_cons]; omega
  · rw [if_pos (by omega), if_pos (by omega)]; omega
  · rw [if_neg (by omega), if_pos (by omega)]; simp only [List.length_cons]; omega
theorem or_end {a b acc r : List Int} (h : M.orL a b = acc ++ r) : M.orL a b = acc ++ r := h

end Go.Proofs.YtlmidhhonnnocaaDoor
