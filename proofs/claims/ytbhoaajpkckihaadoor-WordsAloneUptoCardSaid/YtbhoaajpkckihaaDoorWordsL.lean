/-
  The law WordsAlone.
-/
import Derived.Test.YtbhoaajpkckihaaDoorWordsK
namespace Go.Proofs.YtbhoaajpkckihaaDoor
open Go.RowKit Mem
set_option linter.unusedVariables false
set_option maxRecDepth 100000

theorem one_word {x : List UInt8} (h : M.IsWord x) : M.one x = true := by unfold M.one; rw [M.words_one h]; simp
theorem pair_words {x y : List UInt8} (hx : M.IsWord x) (hy : M.IsWord y) : M.pair (x ++ 61 :: y) = true := by unfold M.pair; rw [M.words_two hx hy]; simp
theorem laid_len : ∀ (xs : List (List UInt8)), (∀ x ∈ xs, x.length ≤ 32) → (M.laid xs).length ≤ 33 * xs.length := by
  intro xs
  induction xs with
  | nil => intro _; simp [M.laid]
  | cons x r ih =>
    intro h
    have h1 := ih (fun y hy => h y (by simp [hy]))
    have h2 := h x (by simp)
    have e : M.laid (x :: r) = x ++ [32] ++ M.laid r := by simp [M.laid]
    rw [e]
    simp only [List.length_append, List.length_cons, List.length_nil]
    omega
theorem laid_snoc (xs : List (List UInt8)) (x : List UInt8) : M.laid (xs ++ [x]) = M.laid xs ++ (x ++ [32]) := by simp [M.laid]
/-- the first i words, each with a blank behind it -/
def upTo (ws : List M.W) (i : Nat) : List UInt8 := M.laid ((ws.map M.W.text).take i)
theorem upTo_next {ws : List M.W} {i : Nat} (h : i < ws.length) : upTo ws (i + 1) = upTo ws i ++ (ws[i].text ++ [32]) := by
  unfold upTo
  rw [List.take_succ_eq_append_getElem (by simpa using h), laid_snoc]
  simp
theorem upTo_len {ws : List M.W} (hw : ∀ x ∈ ws, x.text.length ≤ 32) (i : Nat) : (upTo ws i).length ≤ 33 * i := by
  unfold upTo
  have := laid_len ((ws.map M.W.text).take i) (fun x hx => by
    obtain ⟨y, hy, rfl⟩ := List.mem_map.1 (List.mem_of_mem_take hx)
    exact hw y hy)
  have h2 : ((ws.map M.W.text).take i).length ≤ i := by simp; omega
  omega

set_option maxHeartbeats 4000000 in
theorem wordsAlone_any (s : ByteArray) (w : World) (hs : s.size ≤ 1048576) (hT : Tabs w) : Calls Tryd.prog 5 #[.string s] w (SaysB true w) := by
  have HT := Lib.hid hT
  clear hT
  have HALL := Lib.hid (M.words_all (bl s) 0)
  change Hid (∀ x ∈ M.words (bl s), _) at HALL
  have hml := M.words_len (bl s) 0
  change (M.words (bl s)).length ≤ _ at hml
  rw [bl_len] at hml
  go_enter Tryd.func5, Tryd.ntmps5
  go_wp2_with fail
  refine (awake_any w HT.out).mono ?_
  rintro e w1 ⟨rfl, hb1⟩
  have HB1 := Lib.hid hb1
  clear hb1
  go_wp2_with fail
  refine (words_any s w1 (by omega) (HT.out.below HB1.out)).mono ?_
  rintro e w2 ⟨v2, rfl, hr2, hb2⟩
  obtain ⟨A2, c2, rfl, hc2, hcm2⟩ := hr2.form
  have HR2 := Lib.hid hr2
  have HB2 := Lib.hid (HB1.out.trans (hb2.mono HB1.out.size))
  clear hr2 hb2
  rw [bl_len] at HALL
  generalize M.words (bl s) = ws at *
  have H32 := Lib.hid (fun x (hx : x ∈ ws) => (HALL.out x hx).1.le)
  obtain ⟨m, hm⟩ : ∃ m, ws.length = m := ⟨_, rfl⟩
  have HM := Lib.hid hm
  rw [hm] at hc2 hml HR2 ⊢
  clear hm
  go_wp2
  go_loopw [4, 5] (fun q p wr => ∃ i : Nat, p = .int .i64 (i : Int) ∧ q = .string ⟨(upTo ws i).toArray⟩ ∧ i ≤ m ∧ Hid (Below w2.heap.size w2 wr)) (fun _ p _ => m - (intOf p).toNat)
  case atStart => exact ⟨0, rfl, rfl, by omega, Lib.hid (Below.refl _ _)⟩
  case round =>
    obtain ⟨i, rfl, rfl, him, HB⟩ := hrel
    rename World => wr
    by_cases hlt : i < m
    · have hiw : i < ws.length := by rw [HM.out]; exact hlt
      obtain ⟨g, rfl, hg, d0, d1, d2⟩ := (HR2.out.below HB.out).at_ hiw
      have hgw : g < w2.heap.size := by
        obtain ⟨g', e', hg', _⟩ := HR2.out.at_ hiw
        injection e' with e'
        injection e' with e' _ _
        omega
      have hx := HALL.out ws[i] (List.getElem_mem hiw)
      have hx32 := hx.1.le
      have hzz := hx.2.2.1
      have hzl := hx.2.2.2
      have HWX := Lib.hid hx.1
      have HUP := Lib.hid (upTo_next hiw)
      have hul := upTo_len H32.out i
      have hil : (i : Int) < (m : Int) := by omega
      have hi0 : (0 : Int) ≤ (i : Int) := by omega
      rw [hzz] at d2 hzl
      clear hx hzz
      have HCELL := Lib.hid (fun (W : World) (h : Below w2.heap.size w2 W) (j : Nat) (hj : j < ws.length) => (HR2.out.below h).at_ hj)
      have HBW := Lib.hid (HB2.out.trans (HB.out.mono HB2.out.size))
      have HONE := Lib.hid (show Calls Tryd.prog 11 #[.string ⟨ws[i].text.toArray⟩] wr.drew (SaysB true wr.drew) by
        have h := one_any ⟨ws[i].text.toArray⟩ wr.drew (by show ws[i].text.toArray.size ≤ _; simp; omega) (HT.out.below ⟨HBW.out.os, HBW.out.tape, HBW.out.output, HBW.out.size, HBW.out.block⟩)
        have e : bl ⟨ws[i].text.toArray⟩ = ws[i].text := rfl
        rw [e, one_word HWX.out] at h
        exact h)
      generalize hxx : ws[i] = x at *
      obtain ⟨L, hL⟩ : ∃ L, x.text.length = L := ⟨_, rfl⟩
      have HL := Lib.hid hL
      have hs1 : IntKind.i64.wrap (L : Int) = (L : Int) := by rw [IntKind.wrap_i64]; omega
      have hs2 : IntKind.i64.wrap ((x.a : Int) + (L : Int) - (x.a : Int)) = (L : Int) := by rw [IntKind.wrap_i64]; omega
      rw [hL] at d2 hzl hx32
      have d2' : wr.cell? ⟨g, i * 3 + 2, none⟩ = some (.int .i64 ((x.a : Int) + (L : Int))) := by rw [d2]; simp
      clear d2
      have hd32 : decide ((32 : Int) < (L : Int)) = false := by rw [decide_eq_false_iff_not]; omega
      go_wp2_with fail
      go_region_held3 (fun W => W.cell? ⟨g, i * 3, none⟩ = some (.string ⟨x.text.toArray⟩) ∧ W.cell? ⟨g, i * 3 + 1, none⟩ = some (.int .i64 (x.a : Int)) ∧ W.cell? ⟨g, i * 3 + 2, none⟩ = some (.int .i64 ((x.a : Int) + (L : Int)))) (go_keep)
        ((go_at_call 11; refine HONE.out.mono ?_; rintro e w3 ⟨rfl, hb3⟩
          have q0 := (hb3.cell (p := ⟨g, i * 3, none⟩) hg).trans d0; have q1 := (hb3.cell (p := ⟨g, i * 3 + 1, none⟩) hg).trans d1; have q2 := (hb3.cell (p := ⟨g, i * 3 + 2, none⟩) hg).trans d2'))
      have HB3 := Lib.hid (HB.out.trans ((below_undrew hb3).mono HB.out.size))
      have hg3 : g < w3.heap.size := Nat.lt_of_lt_of_le hgw HB3.out.size
      clear hb3
      by_cases h0 : i = 0
      · subst h0
        go_wp2_with fail
        go_quiet (fail)
        have e32 := bytes_app x.text [32]
        have eU := bytes_app (upTo ws 0) (x.text ++ [32])
        rw [← HUP.out] at eU
        have y1 : ¬ 9223372036854775807 < L + 1 := by omega
        have y2 : ¬ 9223372036854775807 < (upTo ws 0).length + (L + 1) := by omega
        go_wp2
        go_roundw
        case rel => exact ⟨0 + 1, by go_num, rfl, by omega, Lib.hid (bel_drewN HB3.out _)⟩
        case measure => simp [intOf]; omega
      · obtain ⟨j, rfl⟩ : ∃ j, i = j + 1 := ⟨i - 1, by omega⟩
        have hjw : j < ws.length := by rw [HM.out]; omega
        have hjm : (j : Int) < (m : Int) := by omega
        have hj0 : (0 : Int) ≤ (j : Int) := by omega
        have hj1 : (j : Int) + 1 < (m : Int) := by omega
        have hj2 : (0 : Int) ≤ (j : Int) + 1 := by omega
        have hwj3 : IntKind.i64.wrap (j : Int) = (j : Int) := by rw [IntKind.wrap_i64]; omega
        obtain ⟨g', e', hg', p0, _, _⟩ := HCELL.out w3 HB3.out j hjw
        injection e' with e'
        injection e' with e' _ _
        subst e'
        have hy := HALL.out ws[j] (List.getElem_mem hjw)
        have hy32 := hy.1.le
        have HWY := Lib.hid hy.1
        clear hy
        have HBW3 := Lib.hid (HB2.out.trans (HB3.out.mono HB2.out.size))
        have HPAIR := Lib.hid (show Calls Tryd.prog 13 #[.string ⟨(ws[j].text ++ 61 :: x.text).toArray⟩] w3.drew (SaysB true w3.drew) by
          have h := pair_any ⟨(ws[j].text ++ 61 :: x.text).toArray⟩ w3.drew (by show (ws[j].text ++ 61 :: x.text).toArray.size ≤ _; simp; have := HL.out; omega) (HT.out.below ⟨HBW3.out.os, HBW3.out.tape, HBW3.out.output, HBW3.out.size, HBW3.out.block⟩)
          have e : bl ⟨(ws[j].text ++ 61 :: x.text).toArray⟩ = ws[j].text ++ 61 :: x.text := rfl
          rw [e, pair_words HWY.out HWX.out] at h
          exact h)
        generalize ws[j] = y at *
        have a1 := bytes_app y.text [61]
        have a2 := bytes_app (y.text ++ [61]) x.text
        have z1 : ¬ 9223372036854775807 < y.text.length + 1 := by omega
        have z2 : ¬ 9223372036854775807 < y.text.length + 1 + L := by omega
        have z3 : ¬ 9223372036854775807 < y.text.length + (L + 1) := by omega
        clear q1 q2 d0 d1 d2'
        go_wp2_with fail
        go_region_held3 (fun W => W.cell? ⟨g, j * 3, none⟩ = some (.string ⟨y.text.toArray⟩) ∧ W.cell? ⟨g, (j + 1) * 3, none⟩ = some (.string ⟨x.text.toArray⟩)) (go_keep)
          ((go_at_call 13; refine HPAIR.out.mono ?_; rintro e w4 ⟨rfl, hb4⟩
            have r0 := (hb4.cell (p := ⟨g, j * 3, none⟩) hg3).trans p0; have r1 := (hb4.cell (p := ⟨g, (j + 1) * 3, none⟩) hg3).trans q0))
        have HB4 := Lib.hid (HB3.out.trans ((below_undrew hb4).mono HB3.out.size))
        clear hb4
        have e32 := bytes_app x.text [32]
        have eU := bytes_app (upTo ws (j + 1)) (x.text ++ [32])
        rw [← HUP.out] at eU
        have y1 : ¬ 9223372036854775807 < L + 1 := by omega
        have y2 : ¬ 9223372036854775807 < (upTo ws (j + 1)).length + (L + 1) := by omega
        go_wp2
        go_roundw
        case rel => exact ⟨j + 1 + 1, by go_num, rfl, by omega, Lib.hid (HB4.out)⟩
        case measure => simp [intOf]; omega
    · have hul := upTo_len H32.out i
      have HALLT := Lib.hid (show upTo ws i = M.laid (ws.map M.W.text) by unfold upTo; rw [List.take_of_length_le (by rw [List.length_map, HM.out]; omega)])
      have HTX := Lib.hid (show (M.words (upTo ws i)).map M.W.text = ws.map M.W.text by
        rw [HALLT.out]
        exact M.words_laid _ 0 (fun x hx => by
          obtain ⟨y, hy, rfl⟩ := List.mem_map.1 hx
          exact (HALL.out y hy).1))
      have HBW := Lib.hid (HB2.out.trans (HB.out.mono HB2.out.size))
      have HWT := Lib.hid (show Calls Tryd.prog 9 #[.string ⟨(upTo ws i).toArray⟩] wr (SaysW 28 (M.words (upTo ws i)) wr) from
        words_any ⟨(upTo ws i).toArray⟩ wr (by show (upTo ws i).toArray.size ≤ _; simp; omega) (HT.out.below HBW.out))
      generalize M.words (upTo ws i) = vs at *
      have HVL := Lib.hid (show vs.length = m by
        have := congrArg List.length HTX.out
        simp only [List.length_map] at this
        rw [this, HM.out])
      go_wp2_with fail
      refine HWT.out.mono ?_
      rintro e w3 ⟨v3, rfl, hr3, hb3⟩
      obtain ⟨A3, c3, rfl, hc3, hcm3⟩ := hr3.form
      have HR3 := Lib.hid hr3
      have HR23 := Lib.hid ((HR2.out.below HB.out).below hb3)
      have HB3 := Lib.hid (HBW.out.trans (hb3.mono HBW.out.size))
      rw [HVL.out] at hc3 HR3 ⊢
      clear hr3 hb3
      generalize (upTo ws i) = tt at *
      go_wp2
      go_loopw [7] (fun p wq => ∃ k : Nat, p = .int .i64 (k : Int) ∧ k ≤ m ∧ Hid (Below w3.heap.size w3 wq)) (fun p _ => m - (intOf p).toNat)
      case atStart => exact ⟨0, rfl, by omega, Lib.hid (Below.refl _ _)⟩
      case round =>
        obtain ⟨k, rfl, hkm, HBQ⟩ := hrel
        rename World => wq
        by_cases hlt2 : k < m
        · have hkw : k < ws.length := by rw [HM.out]; exact hlt2
          have hkv : k < vs.length := by rw [HVL.out]; exact hlt2
          obtain ⟨g, rfl, hg, d0, _, _⟩ := (HR23.out.below HBQ.out).at_ hkw
          obtain ⟨g', rfl, hg', p0, _, _⟩ := (HR3.out.below HBQ.out).at_ hkv
          have hte : vs[k].text = ws[k].text := by
            have h1 : (vs.map M.W.text)[k]? = (ws.map M.W.text)[k]? := by rw [HTX.out]
            simpa [hkw, hkv] using h1
          rw [hte] at p0
          clear hte
          generalize ws[k].text = x at *
          have hkl : (k : Int) < (m : Int) := by omega
          go_wp2_with fail
          go_quiet (fail)
          go_wp2
          go_roundw
          case rel => exact ⟨k + 1, by go_num, by omega, Lib.hid (bel_drewN HBQ.out _)⟩
          case measure => simp [intOf]; omega
        · go_wp2
          go_ret
          exact ⟨rfl, HB3.out.trans (HBQ.out.mono HB3.out.size)⟩
end Go.Proofs.YtbhoaajpkckihaaDoor
