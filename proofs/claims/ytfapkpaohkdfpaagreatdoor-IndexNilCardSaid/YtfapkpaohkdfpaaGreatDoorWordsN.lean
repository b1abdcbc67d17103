/-
  What the document's Terms does, by a contract; the law WordsTerms.
-/
import Derived.Test.YtfapkpaohkdfpaaGreatDoorWordsM
namespace Go.Proofs.YtfapkpaohkdfpaaGreatDoor
open Go.RowKit Mem
set_option linter.unusedVariables false
set_option maxRecDepth 100000

theorem gather_snoc (xs : List (List UInt8)) (x : List UInt8) : M.gather (xs ++ [x]) = M.put (M.gather xs) x := by unfold M.gather; rw [List.foldl_append]; rfl
theorem gather_len (xs : List (List UInt8)) : (M.gather xs).length ≤ xs.length := by have := foldl_len xs []; simpa [M.gather] using this
theorem paired_iff {l : List UInt8} {p x : M.W} (h1 : p.z ≤ x.a) (h2 : x.a ≤ l.length) : M.paired l p x = true ↔ (x.a = p.z + 1 ∧ l[p.z]?.getD 0 = 61) := by
  unfold M.paired
  rw [decide_eq_true_eq]
  constructor
  · intro h
    have hl := congrArg List.length h
    simp only [List.length_drop, List.length_take, List.length_cons, List.length_nil] at hl
    have ha : x.a = p.z + 1 := by omega
    refine ⟨ha, ?_⟩
    have hg := congrArg (·[0]?) h
    simp only [List.getElem?_drop, Nat.add_zero, List.getElem?_cons_zero] at hg
    rw [List.getElem?_take, if_pos (by omega)] at hg
    rw [hg]; rfl
  · rintro ⟨ha, hc⟩
    rw [ha]
    have hlt : p.z < l.length := by omega
    rw [List.getElem?_eq_getElem hlt] at hc
    rw [List.take_succ_eq_append_getElem hlt, List.drop_append_of_le_length (by simp; omega), List.drop_eq_nil_of_le (by simp; omega)]
    simpa using hc

set_option maxHeartbeats 4000000 in
theorem ref_terms_any (s : ByteArray) (w : World) (hs : s.size ≤ 1073741824) (hs2 : s.size ≤ 268435456) (hT : Tabs w) : Calls Tryz.prog 55 #[.string s] w (SaysS (M.terms (bl s)) w) := by
  have HW := Lib.hid (ref_words_any s w hs hT)
  have HTM := Lib.hid (show M.terms (bl s) = M.gather (M.raw (bl s) none (M.words (bl s))) from rfl)
  have HALL := Lib.hid (M.words_all (bl s) 0)
  change Hid (∀ x ∈ M.words (bl s), _) at HALL
  have HORD := Lib.hid (show Ordered (M.words (bl s)) from M.words_order (bl s) 0)
  have hml0 := M.words_len (bl s) 0
  change (M.words (bl s)).length ≤ _ at hml0
  have hln : (bl s).length = s.size := bl_len s
  rw [hln] at hml0 HALL
  clear hT
  generalize M.words (bl s) = ws at *
  go_enter Tryz.func55, Tryz.ntmps55
  go_wp2_with fail
  refine HW.out.mono ?_
  rintro e w1 ⟨v, rfl, hrow, hb⟩
  obtain ⟨A, c, rfl, hc, hcm⟩ := hrow.form
  have HROW := Lib.hid hrow; have HB := Lib.hid hb
  have hw1 : w.heap.size ≤ w1.heap.size := hb.size
  clear hrow hb
  obtain ⟨m, hm⟩ : ∃ m, ws.length = m := ⟨_, rfl⟩
  have HM := Lib.hid hm
  rw [hm] at hc hml0 HROW ⊢
  clear hm
  go_wp2
  go_loopw [3, 5] (fun o p wr => ∃ (i n k : Nat) (A2 : Option Addr) (xs : List (List UInt8)), p = .int .i64 (i : Int) ∧ o = .slice A2 n k ∧ i ≤ m ∧ n ≤ 2 * i ∧ Hid ((M.gather xs).length = n) ∧ Hid (RawInv (bl s) ws i xs) ∧ Hid (RdV wr wr.heap.size A2 n k (strs (M.gather xs))) ∧ Hid (Below w1.heap.size w1 wr)) (fun _ p _ => m - (intOf p).toNat)
  case atStart => exact ⟨0, 0, 0, none, [], rfl, rfl, by omega, by omega, Lib.hid rfl, Lib.hid (RawInv.start _ _), Lib.hid RdV.none_, Lib.hid (Below.refl _ _)⟩
  case round =>
    obtain ⟨i, n, k, A2, xs, rfl, rfl, him, hni, HN, HR, HO, HB2⟩ := hrel
    rename World => wr
    by_cases hlt : i < m
    · have hiw : i < ws.length := by rw [HM.out]; exact hlt
      obtain ⟨g, rfl, hg, c0, c1, c2⟩ := (HROW.out.below HB2.out).at_ hiw
      have hil : (i : Int) < (m : Int) := by omega
      have hi0 : (0 : Int) ≤ (i : Int) := by omega
      have hwr : w1.heap.size ≤ wr.heap.size := HB2.out.size
      have HPUT := Lib.hid (put_any A2 n k _ (M.gather xs) ws[i].text wr HO.out (Nat.le_refl _) (by omega))
      rw [← gather_snoc] at HPUT
      have HN1 := Lib.hid (show (M.gather (xs ++ [ws[i].text])).length ≤ 2 * i + 1 by
        have := put_len (M.gather xs) ws[i].text
        rw [← gather_snoc, HN.out] at this
        omega)
      have HCELL := Lib.hid (fun (W : World) (h : Below w1.heap.size w1 W) (j : Nat) (hj : j < ws.length) => (HROW.out.below h).at_ hj)
      by_cases h0 : i = 0
      · subst h0
        have HR1 := Lib.hid (HR.out.first hiw)
        generalize ws[0] = x at *
        simp only [Nat.zero_mul, Nat.zero_add] at c0 c1 c2
        go_wp2_with fail
        refine HPUT.out.mono ?_
        rintro e w2 ⟨A3, c3, rfl, hr3, hb3⟩
        have HR3 := Lib.hid hr3
        have HB3 := Lib.hid (HB2.out.trans (hb3.mono hwr))
        clear hr3 hb3
        go_wp2_with fail
        go_quiet (fail)
        go_wp2
        exact ⟨⟨1, _, c3, A3, _, by go_num, rfl, by omega, by have := HN1.out; omega, Lib.hid rfl, HR1, Lib.hid HR3.out, Lib.hid (bel_drewN HB3.out _)⟩, by simp [intOf]; omega⟩
      · obtain ⟨j, rfl⟩ : ∃ j, i = j + 1 := ⟨i - 1, by omega⟩
        have hjw : j < ws.length := by omega
        have hjm : (j : Int) < (m : Int) := by omega
        have hj0 : (0 : Int) ≤ (j : Int) := by omega
        have hwj3 : IntKind.i64.wrap (j : Int) = (j : Int) := by rw [IntKind.wrap_i64]; omega
        have HLO := Lib.hid (HR.out.lone hiw (by omega))
        have HBO := Lib.hid (HR.out.both hiw (by omega))
        simp only [Nat.add_sub_cancel] at HLO HBO
        have hord := HORD.out j hiw
        have hin : ws[j + 1].a ≤ s.size := by have := (HALL.out ws[j + 1] (List.getElem_mem hiw)).2.2; omega
        have hy32 := (HALL.out ws[j] (List.getElem_mem hjw)).1.le
        have hx32 := (HALL.out ws[j + 1] (List.getElem_mem hiw)).1.le
        have HPI := Lib.hid (paired_iff (l := bl s) hord (by rw [hln]; exact hin))
        generalize hxx : ws[j + 1] = x at *
        generalize hyy : ws[j] = y at *
        go_wp2_with fail
        refine HPUT.out.mono ?_
        rintro e w2 ⟨A3, c3, rfl, hr3, hb3⟩
        have HR3 := Lib.hid hr3
        have HB3 := Lib.hid (HB2.out.trans (hb3.mono hwr))
        have hcc3 := hr3.2.1
        have hcc4 := hr3.max
        clear hr3 hb3
        obtain ⟨g1, e1, hg1, d0, d1, d2⟩ := HCELL.out w2 HB3.out j hjw
        injection e1 with e1
        injection e1 with e1 _ _
        subst e1
        obtain ⟨g2, e2, hg2, f0, f1, f2⟩ := HCELL.out w2 HB3.out (j + 1) hiw
        injection e2 with e2
        injection e2 with e2 _ _
        subst e2
        rw [hyy] at d0 d1 d2
        rw [hxx] at f0 f1 f2
        clear hxx hyy c0 c1 c2
        by_cases ha : x.a = y.z + 1
        · have hyl : y.z < s.size := by omega
          have hgy : (bl s)[y.z]?.getD 0 = s[y.z] := by rw [List.getElem?_eq_getElem (by rw [hln]; exact hyl)]; rfl
          by_cases hch : s[y.z] = 61
          · have HPT := Lib.hid (HBO.out (HPI.out.2 ⟨ha, by rw [hgy]; exact hch⟩))
            have hxc : (((s[y.z]).toNat : Int) == 61) = true := by rw [hch]; rfl
            rw [ha] at f1
            clear hgy hch ha
            have hyi : (y.z : Int) < (s.size : Int) := by omega
            have HPUT2 := Lib.hid (fun (W : World) (h : Below w2.heap.size w2 W) => put_any A3 _ c3 _ (M.gather (xs ++ [x.text])) (y.text ++ 61 :: x.text) W (HR3.out.below h) h.size (by have := HN1.out; omega))
            rw [← gather_snoc] at HPUT2
            have HN2 := Lib.hid (show (M.gather (xs ++ [x.text] ++ [y.text ++ 61 :: x.text])).length ≤ 2 * (j + 1 + 1) by
              have := put_len (M.gather (xs ++ [x.text])) (y.text ++ 61 :: x.text)
              rw [← gather_snoc] at this
              have h1 := HN1.out
              omega)
            have a1 := bytes_app y.text [61]
            have a2 := bytes_app (y.text ++ [61]) x.text
            have z1 : ¬ 9223372036854775807 < y.text.length + 1 := by omega
            have z2 : ¬ 9223372036854775807 < y.text.length + 1 + x.text.length := by omega
            have z3 : ¬ 9223372036854775807 < y.text.length + (x.text.length + 1) := by omega
            have hj1 : (j : Int) + 1 < (m : Int) := by omega
            have hj2 : (0 : Int) ≤ (j : Int) + 1 := by omega
            generalize xs ++ [x.text] ++ [y.text ++ 61 :: x.text] = zs at HPT HN2 HPUT2
            generalize M.gather (xs ++ [x.text]) = gx at *
            go_wp2_with fail
            go_quiet (fail)
            have HPUT3 := Lib.hid (HPUT2.out (w2.drewN nq).drew (by exact ⟨rfl, rfl, rfl, Nat.le_refl _, fun _ _ => rfl⟩))
            go_wp2_with fail
            go_region_held3 (fun W => W.cell? ⟨g, j * 3, none⟩ = some (.string ⟨y.text.toArray⟩) ∧ W.cell? ⟨g, (j + 1) * 3, none⟩ = some (.string ⟨x.text.toArray⟩)) (go_keep)
              ((go_at_call 80; refine HPUT3.out.mono ?_; rintro e w4 ⟨A4, c4, rfl, hr4, hb4⟩
                have r0 := (hb4.cell (p := ⟨g, j * 3, none⟩) hg1).trans d0; have r1 := (hb4.cell (p := ⟨g, (j + 1) * 3, none⟩) hg1).trans f0))
            have HR4 := Lib.hid hr4
            have HB4 := Lib.hid (show Below w1.heap.size w1 w4 from HB3.out.trans (Below.mono (show Below w2.heap.size w2 w4 from ⟨hb4.os, hb4.tape, hb4.output, hb4.size, hb4.block⟩) HB3.out.size))
            clear hr4 hb4
            go_wp2
            exact ⟨⟨j + 1 + 1, _, c4, A4, _, by go_num, rfl, by omega, HN2.out, Lib.hid rfl, HPT, Lib.hid HR4.out, HB4⟩, by simp [intOf]; omega⟩
          · have HPT := Lib.hid (HLO.out (by
              cases hq : M.paired (bl s) y x
              · rfl
              · exact absurd (by rw [← hgy]; exact (HPI.out.1 hq).2) hch))
            have hxc : (((s[y.z]).toNat : Int) == 61) = false := by
              rw [Bool.eq_false_iff]
              intro h
              apply hch
              have h2 : (s[y.z]).toNat = 61 := by have := beq_iff_eq.1 h; omega
              exact UInt8.toNat_inj.1 h2
            rw [ha] at f1
            clear hgy hch ha
            have hyi : (y.z : Int) < (s.size : Int) := by omega
            go_wp2_with fail
            go_quiet (fail)
            go_wp2
            exact ⟨⟨j + 1 + 1, _, c3, A3, _, by go_num, rfl, by omega, by have := HN1.out; omega, Lib.hid rfl, HPT, Lib.hid HR3.out, Lib.hid (bel_drewN HB3.out _)⟩, by simp [intOf]; omega⟩
        · have HPT := Lib.hid (HLO.out (by
            cases hq : M.paired (bl s) y x
            · rfl
            · exact absurd (HPI.out.1 hq).1 ha))
          have hne : ((x.a : Int) == (y.z : Int) + 1) = false := by simp; omega
          clear ha
          go_wp2_with fail
          go_quiet (fail)
          go_wp2
          exact ⟨⟨j + 1 + 1, _, c3, A3, _, by go_num, rfl, by omega, by have := HN1.out; omega, Lib.hid rfl, HPT, Lib.hid HR3.out, Lib.hid (bel_drewN HB3.out _)⟩, by simp [intOf]; omega⟩
    · have HRAW := Lib.hid (HR.out.done (by rw [HM.out]; omega))
      have HG := Lib.hid (show M.terms (bl s) = M.gather xs by rw [HTM.out, ← HRAW.out])
      go_wp2
      go_ret
      refine ⟨A2, k, by rw [HG.out, HN.out]; rfl, by rw [HG.out, HN.out]; exact HO.out, HB.out.trans (HB2.out.mono HB.out.size)⟩

end Go.Proofs.YtfapkpaohkdfpaaGreatDoor
