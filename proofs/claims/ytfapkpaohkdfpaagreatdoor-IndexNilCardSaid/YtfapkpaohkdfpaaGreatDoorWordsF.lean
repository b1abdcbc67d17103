/-
  What the document's Words does, by a contract.
-/
import Derived.Test.YtfapkpaohkdfpaaGreatDoorWordsE
import Derived.Test.YtfapkpaohkdfpaaGreatDoorTurn
namespace Go.Proofs.YtfapkpaohkdfpaaGreatDoor
open Go.RowKit Mem
set_option linter.unusedVariables false
set_option maxRecDepth 100000

/-- k bytes of the word at a place -/
def txt (l : List UInt8) (a k : Nat) : List UInt8 := ((l.drop a).take k).map M.low
theorem txt_zero (l : List UInt8) (a : Nat) : txt l a 0 = [] := by simp [txt]
theorem txt_more (l : List UInt8) (a k : Nat) : txt l a (k + M.lead (l.drop (a + k))) = txt l a k ++ letT (l.drop (a + k)) := by
  unfold txt letT
  rw [List.take_add, List.map_append, List.drop_drop]
theorem txt_len {l : List UInt8} {a k : Nat} (h : a + k ≤ l.length) : (txt l a k).length = k := by unfold txt; simp; omega
theorem letT_empty (l : List UInt8) : letT l = [] ↔ M.lead l = 0 := by
  constructor
  · intro h
    by_cases h0 : M.lead l = 0
    · exact h0
    · have := congrArg List.length h
      have hl := M.lead_le l
      unfold letT at this
      simp at this
      rcases this with h1 | h1
      · exact h1
      · rw [h1] at hl; simp at hl; rw [h1]; exact hl
  · intro h; exact (letT_none h).1
theorem bytes_app (a b : List UInt8) : (⟨a.toArray⟩ : ByteArray) ++ ⟨b.toArray⟩ = ⟨(a ++ b).toArray⟩ := by
  apply ByteArray.ext
  show (ByteArray.append ⟨a.toArray⟩ ⟨b.toArray⟩).data = _
  simp [ByteArray.append]

/-- the word that is being built, in its block -/
def Built (w : World) (g : Nat) (x : List UInt8) (a z : Nat) : Prop := w.heap[g]? = some (.cells #[.string ⟨x.toArray⟩, .int .i64 (a : Int), .int .i64 (z : Int)] 121 (0, 0))

set_option maxHeartbeats 2000000 in
theorem ref_words_any (s : ByteArray) (w : World) (hs : s.size ≤ 1073741824) (hT : Tabs w) : Calls Tryz.prog 79 #[.string s] w (SaysW 121 (M.words (bl s)) w) := by
  obtain ⟨i0, hi, hz0, hz1, hz2⟩ := info_of Tryz.infoV
  have HI := Lib.hid hi; have HZ0 := Lib.hid hz0; have HZ1 := Lib.hid hz1; have HZ2 := Lib.hid hz2
  clear hi hz0 hz1 hz2
  have HT := Lib.hid hT
  clear hT
  have hln : (bl s).length = s.size := bl_len s
  have H0 := Lib.hid (show WInv 121 (bl s) w 0 (.slice none 0 0) [] w from ⟨World.ownsRow_nil _ _ _ _, Below.refl _ _, rfl⟩)
  go_enter Tryz.func79, Tryz.ntmps79
  go_wp2
  go_loopw [3, 4] (fun o p wr => ∃ (a m c : Nat) (A : Option Addr) (ws : List M.W), p = .int .i64 (a : Int) ∧ o = .slice A m c ∧ a ≤ s.size ∧ m ≤ a ∧ Hid (ws.length = m) ∧ Hid (WInv 121 (bl s) w a (.slice A m c) ws wr)) (fun _ p _ => s.size - (intOf p).toNat)
  case atStart => exact ⟨0, 0, 0, none, [], rfl, rfl, Nat.zero_le _, Nat.le_refl _, Lib.hid rfl, H0⟩
  case round =>
    obtain ⟨a, m, c, A, ws, rfl, rfl, ha, hma, HM, HV⟩ := hrel
    rename World => wr
    obtain ⟨hrow, hb, heq⟩ := HV.out
    have HB := Lib.hid hb; have HROW := Lib.hid hrow; have HEQ := Lib.hid heq
    have hbs : w.heap.size ≤ wr.heap.size := hb.size
    clear hrow heq hb
    by_cases hlt : a < s.size
    · have hne : (bl s).drop a ≠ [] := by intro e; have := congrArg List.length e; rw [List.length_drop, hln] at this; simp at this; omega
      have HSK := Lib.hid (M.wordsAt_skip (a := a) hne)
      have HWD := Lib.hid (M.wordsAt_word (a := a) (l := (bl s).drop a))
      have HLT := Lib.hid (ref_letter_any s a wr (by omega) hlt (HT.out.below HB.out))
      by_cases h0 : M.lead ((bl s).drop a) = 0
      · have HL := Lib.hid (letT_none h0)
        have HR := Lib.hid (M.run_none (room := 32) (.inl h0))
        clear hne h0
        go_wp2_with fail
        refine HLT.out.mono ?_
        rintro e w1 ⟨rfl, hb1⟩
        rw [HL.out.1, HL.out.2]
        have HV1 := Lib.hid (show WInv 121 (bl s) w (a + 1) (.slice A m c) ws w1 from ⟨HROW.out.below hb1, HB.out.trans (hb1.mono HB.out.size), by rw [← HEQ.out, HSK.out HR.out, List.drop_drop]⟩)
        clear hb1
        go_wp2
        exact ⟨⟨a + 1, m, c, A, ws, by go_num, rfl, by omega, by omega, HM, HV1⟩, by simp [intOf]; omega⟩
      · have HNE := Lib.hid (show (⟨(letT ((bl s).drop a)).toArray⟩ : ByteArray).toList.isEmpty = false by
          rw [Lib.toList_data]
          cases hl : letT ((bl s).drop a) with
          | nil => exact absurd ((letT_empty _).1 hl) h0
          | cons _ _ => rfl)
        have HRW := Lib.hid (show M.run 32 ((bl s).drop a) ≠ 0 by
          have h4 := M.lead_le4 ((bl s).drop a)
          rw [M.run_some (by omega)]; omega)
        have HINV0 := Lib.hid (EndInv.start (bl s) a)
        clear hne h0
        go_wp2_with fail
        refine HLT.out.mono ?_
        rintro e w1 ⟨rfl, hb1⟩
        have HB1 := Lib.hid hb1
        have HW1 := Lib.hid (HROW.out.below hb1)
        have hw1 : wr.heap.size ≤ w1.heap.size := hb1.size
        clear hb1
        have hemp := HNE.out
        generalize letT ((bl s).drop a) = t0 at *
        generalize letN ((bl s).drop a) = n0 at *
        have HG0 := Lib.hid (show Built (w1.alloc (.cells #[.string ⟨#[]⟩, .int .i64 (a : Int), .int .i64 0] 121)) w1.heap.size (txt (bl s) a 0) a 0 by rw [txt_zero]; exact heap_alloc_new w1 _)
        have hemp2 : t0.isEmpty = false := by
          have := HNE.out
          rw [Lib.toList_data] at this
          simpa using this
        clear hemp
        have HBW1 := Lib.hid (HB.out.trans (HB1.out.mono HB.out.size))
        go_wp2
        go_loopw [4] (fun p wi => ∃ k : Nat, p = .int .i64 ((a + k : Nat) : Int) ∧ a + k ≤ s.size ∧ Hid (EndInv (bl s) a k) ∧ Hid (Built wi w1.heap.size (txt (bl s) a k) a 0) ∧ Hid (Below w1.heap.size w1 wi) ∧ w1.heap.size < wi.heap.size) (fun p _ => s.size - (intOf p).toNat)
        case atStart => exact ⟨0, rfl, by omega, HINV0, HG0, Lib.hid ((Below.refl _ w1).alloc (Nat.le_refl _) _), by simp⟩
        case round =>
          obtain ⟨k, rfl, hk, HE, HGI, HBI, hgi⟩ := hrel
          rename World => wi
          by_cases hlt2 : a + k < s.size
          · have HLT2 := Lib.hid (ref_letter_any s (a + k) wi (by omega) hlt2 (HT.out.below (HBW1.out.trans (HBI.out.mono HBW1.out.size))))
            have HS := Lib.hid (HE.out.stop)
            have HGO := Lib.hid (HE.out.go)
            have HLE := Lib.hid (M.lead_le ((bl s).drop (a + k)))
            have HTM := Lib.hid (txt_more (bl s) a k)
            have hkl := txt_len (l := bl s) (a := a) (k := k) (by rw [hln]; omega)
            have h32 := HE.out.2
            by_cases h0 : M.lead ((bl s).drop (a + k)) = 0
            · have HL := Lib.hid (letT_none h0)
              have HSS := Lib.hid (HS.out (.inl h0))
              clear h0
              go_wp2_with fail
              refine HLT2.out.mono ?_
              rintro e w2 ⟨rfl, hb2⟩
              rw [HL.out.1, HL.out.2]
              have hbl2 : Below w1.heap.size w1 w2 := HBI.out.trans (hb2.mono HBI.out.size)
              have hg2 : Built w2 w1.heap.size (txt (bl s) a k) a 0 := (hb2.block _ hgi).trans HGI.out
              have hgs : w1.heap.size < w2.heap.size := Nat.lt_of_lt_of_le hgi hb2.size
              have c0 := (cellAt 0 hg2).trans (show _ = some (Value.string ⟨(txt (bl s) a k).toArray⟩) from rfl)
              have c1 := (cellAt 1 hg2).trans (show _ = some (Value.int .i64 (a : Int)) from rfl)
              have c2 := (cellAt 2 hg2).trans (show _ = some (Value.int .i64 0) from rfl)
              have f2 := freeAt 2 hg2
              have HBL3 := Lib.hid (hbl2.setCell (p := ⟨w1.heap.size, 2, none⟩) (Nat.le_refl _) (.int .i64 ((a + k : Nat) : Int)))
              have HW3 := Lib.hid (HW1.out.below HBL3.out)
              have HRM3 := Lib.hid (show World.ownsRow (w2.setCell ⟨w1.heap.size, 2, none⟩ (.int .i64 ((a + k : Nat) : Int))) w.heap.size 121 3 (.slice A m c) m (wcells ws) by have := HW3.out; unfold WRow at this; rwa [HM.out] at this)
              have HX := Lib.hid (HWD.out HRW.out)
              rw [HSS.out] at HX
              have HV3 := Lib.hid (show WInv 121 (bl s) w a (.slice A m c) ws (w2.setCell ⟨w1.heap.size, 2, none⟩ (.int .i64 ((a + k : Nat) : Int))) from ⟨HW3.out, HBW1.out.trans (HBL3.out.mono HBW1.out.size), HEQ.out⟩)
              have hk1 : 1 ≤ k := by have := HRW.out; rw [HSS.out] at this; omega
              have hszw : w.heap.size ≤ w1.heap.size := HBW1.out.size
              clear hbl2 hg2
              have HTXT := Lib.hid (show txt (bl s) a k = (((bl s).drop a).take k).map M.low from rfl)
              generalize txt (bl s) a k = x at *
              go_wp2_with (at_builtin; go_must (refine wpList_append_lies _ rfl (.tmp 55) (.tmp 57) _ rfl w.heap.size 121 i0 _ 3 32 Tryz.underlying118 HI.out HZ0.out HZ1.out HZ2.out rfl (by omega) (.slice A m c) m (wcells ws) rfl (HRM3.out.alloc _) ⟨w2.heap.size, 0, none⟩ 1 1 [.string ⟨x.toArray⟩, .int .i64 (a : Int), .int .i64 ((a + k : Nat) : Int)] rfl rfl (World.news_of_block (cs := #[.string ⟨x.toArray⟩, .int .i64 (a : Int), .int .i64 ((a + k : Nat) : Int)]) (t := 121) (fr := (0, 0)) (by simpa using heap_alloc_new (w2.setCell ⟨w1.heap.size, 2, none⟩ (.int .i64 ((a + k : Nat) : Int))) _)) (by simp [Value.oneCell']) (by omega) (by simp only [maxLen]; omega) (by omega) (by simp; omega) (w2.heap.size + 1) (by simp) ?_))
              intro g9 cap9 w9 hown9 hgrow9 hat9 hlt9
              have HV9 := Lib.hid (HV3.out.next (x := ⟨x, a, a + k⟩) (k := a + k) (by rw [HX.out, List.drop_drop, HTXT.out]) HM.out hown9 hgrow9)
              have HM9 := Lib.hid (show (ws ++ [(⟨x, a, a + k⟩ : M.W)]).length = m + 1 by rw [List.length_append, HM.out]; rfl)
              clear hown9 hgrow9 hat9
              go_wp2
              exact ⟨⟨a + k, m + 1, cap9, _, _, rfl, rfl, by omega, by omega, HM9, HV9⟩, by simp [intOf]; omega⟩
            · have hem : (letT ((bl s).drop (a + k))).isEmpty = false := by
                cases hl : letT ((bl s).drop (a + k)) with
                | nil => exact absurd ((letT_empty _).1 hl) h0
                | cons _ _ => rfl
              have HN := Lib.hid (show letN ((bl s).drop (a + k)) = M.lead ((bl s).drop (a + k)) by unfold letN; rw [if_neg h0])
              have hn0 : 1 ≤ M.lead ((bl s).drop (a + k)) := by omega
              have hn4 := M.lead_le4 ((bl s).drop (a + k))
              have hnl : a + k + M.lead ((bl s).drop (a + k)) ≤ s.size := by have := HLE.out; rw [List.length_drop, hln] at this; omega
              by_cases h33 : 32 < k + M.lead ((bl s).drop (a + k))
              · have HSS := Lib.hid (HS.out (.inr h33))
                clear h0
                go_wp2_with fail
                refine HLT2.out.mono ?_
                rintro e w2 ⟨rfl, hb2⟩
                rw [HN.out]
                generalize M.lead ((bl s).drop (a + k)) = n at *
                generalize letT ((bl s).drop (a + k)) = t at *
                have hbl2 : Below w1.heap.size w1 w2 := HBI.out.trans (hb2.mono HBI.out.size)
                have hg2 : Built w2 w1.heap.size (txt (bl s) a k) a 0 := (hb2.block _ hgi).trans HGI.out
                have hgs : w1.heap.size < w2.heap.size := Nat.lt_of_lt_of_le hgi hb2.size
                have c0 := (cellAt 0 hg2).trans (show _ = some (Value.string ⟨(txt (bl s) a k).toArray⟩) from rfl)
                have c1 := (cellAt 1 hg2).trans (show _ = some (Value.int .i64 (a : Int)) from rfl)
                have c2 := (cellAt 2 hg2).trans (show _ = some (Value.int .i64 0) from rfl)
                have f2 := freeAt 2 hg2
                have HBL3 := Lib.hid (hbl2.setCell (p := ⟨w1.heap.size, 2, none⟩) (Nat.le_refl _) (.int .i64 ((a + k : Nat) : Int)))
                have HW3 := Lib.hid (HW1.out.below HBL3.out)
                have HRM3 := Lib.hid (show World.ownsRow (w2.setCell ⟨w1.heap.size, 2, none⟩ (.int .i64 ((a + k : Nat) : Int))) w.heap.size 121 3 (.slice A m c) m (wcells ws) by have := HW3.out; unfold WRow at this; rwa [HM.out] at this)
                have HX := Lib.hid (HWD.out HRW.out)
                rw [HSS.out] at HX
                have HV3 := Lib.hid (show WInv 121 (bl s) w a (.slice A m c) ws (w2.setCell ⟨w1.heap.size, 2, none⟩ (.int .i64 ((a + k : Nat) : Int))) from ⟨HW3.out, HBW1.out.trans (HBL3.out.mono HBW1.out.size), HEQ.out⟩)
                have hk1 : 1 ≤ k := by have := HRW.out; rw [HSS.out] at this; omega
                have hszw : w.heap.size ≤ w1.heap.size := HBW1.out.size
                clear hbl2 hg2
                have HTXT := Lib.hid (show txt (bl s) a k = (((bl s).drop a).take k).map M.low from rfl)
                generalize txt (bl s) a k = x at *
                go_wp2_with (at_builtin; go_must (refine wpList_append_lies _ rfl (.tmp 55) (.tmp 57) _ rfl w.heap.size 121 i0 _ 3 32 Tryz.underlying118 HI.out HZ0.out HZ1.out HZ2.out rfl (by omega) (.slice A m c) m (wcells ws) rfl (HRM3.out.alloc _) ⟨w2.heap.size, 0, none⟩ 1 1 [.string ⟨x.toArray⟩, .int .i64 (a : Int), .int .i64 ((a + k : Nat) : Int)] rfl rfl (World.news_of_block (cs := #[.string ⟨x.toArray⟩, .int .i64 (a : Int), .int .i64 ((a + k : Nat) : Int)]) (t := 121) (fr := (0, 0)) (by simpa using heap_alloc_new (w2.setCell ⟨w1.heap.size, 2, none⟩ (.int .i64 ((a + k : Nat) : Int))) _)) (by simp [Value.oneCell']) (by omega) (by simp only [maxLen]; omega) (by omega) (by simp; omega) (w2.heap.size + 1) (by simp) ?_))
                intro g9 cap9 w9 hown9 hgrow9 hat9 hlt9
                have HV9 := Lib.hid (HV3.out.next (x := ⟨x, a, a + k⟩) (k := a + k) (by rw [HX.out, List.drop_drop, HTXT.out]) HM.out hown9 hgrow9)
                have HM9 := Lib.hid (show (ws ++ [(⟨x, a, a + k⟩ : M.W)]).length = m + 1 by rw [List.length_append, HM.out]; rfl)
                clear hown9 hgrow9 hat9
                go_wp2
                exact ⟨⟨a + k, m + 1, cap9, _, _, rfl, rfl, by omega, by omega, HM9, HV9⟩, by simp [intOf]; omega⟩
              · have HG2 := Lib.hid (HGO.out h0 h33)
                have htl : (letT ((bl s).drop (a + k))).length ≤ 4 := by unfold letT; simp; omega
                clear h0
                go_wp2_with fail
                refine HLT2.out.mono ?_
                rintro e w2 ⟨rfl, hb2⟩
                rw [HN.out]
                generalize hnn : M.lead ((bl s).drop (a + k)) = n at *
                generalize letT ((bl s).drop (a + k)) = t at *
                have hg2 : Built w2 w1.heap.size (txt (bl s) a k) a 0 := (hb2.block _ hgi).trans HGI.out
                have c0 := (cellAt 0 hg2).trans (show _ = some (Value.string ⟨(txt (bl s) a k).toArray⟩) from rfl)
                have f0 := freeAt 0 hg2
                have happ := bytes_app (txt (bl s) a k) t
                rw [← HTM.out] at happ
                have HB3 := Lib.hid ((HBI.out.trans (hb2.mono HBI.out.size)).setCell (p := ⟨w1.heap.size, 0, none⟩) (Nat.le_refl _) (.string ⟨(txt (bl s) a (k + n)).toArray⟩))
                have HG3 := Lib.hid (show Built (w2.setCell ⟨w1.heap.size, 0, none⟩ (.string ⟨(txt (bl s) a (k + n)).toArray⟩)) w1.heap.size (txt (bl s) a (k + n)) a 0 from heapSet 0 _ hg2)
                have hgs : w1.heap.size < w2.heap.size := Nat.lt_of_lt_of_le hgi hb2.size
                clear hg2 hb2 hnn
                generalize hx1 : txt (bl s) a k = x1 at *
                go_wp2
                exact ⟨⟨k + n, by go_num, by omega, HG2, HG3, HB3, by simpa using hgs⟩, by simp [intOf]; omega⟩
          · have HSS := Lib.hid (HE.out.stop (.inl (by rw [List.drop_eq_nil_of_le (by rw [hln]; omega)]; rfl)))
            have hb2 := Below.refl wi.heap.size wi
            have hbl2 : Below w1.heap.size w1 wi := HBI.out.trans (hb2.mono HBI.out.size)
            have hg2 : Built wi w1.heap.size (txt (bl s) a k) a 0 := (hb2.block _ hgi).trans HGI.out
            have hgs : w1.heap.size < wi.heap.size := Nat.lt_of_lt_of_le hgi hb2.size
            have c0 := (cellAt 0 hg2).trans (show _ = some (Value.string ⟨(txt (bl s) a k).toArray⟩) from rfl)
            have c1 := (cellAt 1 hg2).trans (show _ = some (Value.int .i64 (a : Int)) from rfl)
            have c2 := (cellAt 2 hg2).trans (show _ = some (Value.int .i64 0) from rfl)
            have f2 := freeAt 2 hg2
            have HBL3 := Lib.hid (hbl2.setCell (p := ⟨w1.heap.size, 2, none⟩) (Nat.le_refl _) (.int .i64 ((a + k : Nat) : Int)))
            have HW3 := Lib.hid (HW1.out.below HBL3.out)
            have HRM3 := Lib.hid (show World.ownsRow (wi.setCell ⟨w1.heap.size, 2, none⟩ (.int .i64 ((a + k : Nat) : Int))) w.heap.size 121 3 (.slice A m c) m (wcells ws) by have := HW3.out; unfold WRow at this; rwa [HM.out] at this)
            have HX := Lib.hid (HWD.out HRW.out)
            rw [HSS.out] at HX
            have HV3 := Lib.hid (show WInv 121 (bl s) w a (.slice A m c) ws (wi.setCell ⟨w1.heap.size, 2, none⟩ (.int .i64 ((a + k : Nat) : Int))) from ⟨HW3.out, HBW1.out.trans (HBL3.out.mono HBW1.out.size), HEQ.out⟩)
            have hk1 : 1 ≤ k := by have := HRW.out; rw [HSS.out] at this; omega
            have hszw : w.heap.size ≤ w1.heap.size := HBW1.out.size
            clear hbl2 hg2
            have HTXT := Lib.hid (show txt (bl s) a k = (((bl s).drop a).take k).map M.low from rfl)
            generalize txt (bl s) a k = x at *
            go_wp2_with (at_builtin; go_must (refine wpList_append_lies _ rfl (.tmp 55) (.tmp 57) _ rfl w.heap.size 121 i0 _ 3 32 Tryz.underlying118 HI.out HZ0.out HZ1.out HZ2.out rfl (by omega) (.slice A m c) m (wcells ws) rfl (HRM3.out.alloc _) ⟨wi.heap.size, 0, none⟩ 1 1 [.string ⟨x.toArray⟩, .int .i64 (a : Int), .int .i64 ((a + k : Nat) : Int)] rfl rfl (World.news_of_block (cs := #[.string ⟨x.toArray⟩, .int .i64 (a : Int), .int .i64 ((a + k : Nat) : Int)]) (t := 121) (fr := (0, 0)) (by simpa using heap_alloc_new (wi.setCell ⟨w1.heap.size, 2, none⟩ (.int .i64 ((a + k : Nat) : Int))) _)) (by simp [Value.oneCell']) (by omega) (by simp only [maxLen]; omega) (by omega) (by simp; omega) (wi.heap.size + 1) (by simp) ?_))
            intro g9 cap9 w9 hown9 hgrow9 hat9 hlt9
            have HV9 := Lib.hid (HV3.out.next (x := ⟨x, a, a + k⟩) (k := a + k) (by rw [HX.out, List.drop_drop, HTXT.out]) HM.out hown9 hgrow9)
            have HM9 := Lib.hid (show (ws ++ [(⟨x, a, a + k⟩ : M.W)]).length = m + 1 by rw [List.length_append, HM.out]; rfl)
            clear hown9 hgrow9 hat9
            go_wp2
            exact ⟨⟨a + k, m + 1, cap9, _, _, rfl, rfl, by omega, by omega, HM9, HV9⟩, by simp [intOf]; omega⟩
    · have HE := Lib.hid (show ws = M.words (bl s) by rw [← HEQ.out, List.drop_eq_nil_of_le (by omega), M.wordsAt_nil, List.append_nil])
      go_wp2
      go_ret
      exact ⟨_, rfl, by rw [← HE.out]; exact HROW.out, HB.out⟩
end Go.Proofs.YtfapkpaohkdfpaaGreatDoor
