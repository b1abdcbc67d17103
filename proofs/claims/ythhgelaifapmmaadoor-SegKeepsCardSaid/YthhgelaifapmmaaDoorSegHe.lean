/-
  Terms with a row that may be written over; a segment beside a block that turned; Same of nil lists.
-/
import Derived.Test.YthhgelaifapmmaaDoorSegHd
namespace Go.Proofs.YthhgelaifapmmaaDoor
open Go.RowKit Mem Go.ChangeShapes Go.Sort
set_option linter.unusedVariables false
set_option maxRecDepth 100000

/-- texts in a new row that may be written over -/
def SaysOv (xs : List (List UInt8)) (w : World) (e : Ending) (w' : World) : Prop := ∃ A c, e = .returned (.slice A xs.length c) ∧ RdV w' w'.heap.size A xs.length c (strs xs) ∧ Below w.heap.size w w' ∧ (0 < xs.length → ∃ b, A = some ⟨b, 0, none⟩ ∧ w.heap.size ≤ b ∧ ∀ j, j < xs.length → w'.frozen? ⟨b, j, none⟩ = false)

set_option maxHeartbeats 4000000 in
theorem keysInOrder_w (base b N : Nat) (D : DataW Unit) (w : World) (h : w.ownsGroups Tryd.prog 9 base 3 .i64 b N D) (hN : N ≤ 8388608) :
    Calls Tryd.prog 48 #[.map (some b)] w (SaysOv (keysOf D) w) := by
  obtain ⟨i0, hi0, hz0, hz1, hz2⟩ := info_of Tryd.infoS
  have HI := Lib.hid hi0; have HZ0 := Lib.hid hz0; have HZ1 := Lib.hid hz1; have HZ2 := Lib.hid hz2
  clear hi0 hz0 hz1 hz2
  have HM := Lib.hid (groups_map h)
  clear h
  go_enter Tryd.func48, Tryd.ntmps48
  go_wp2_with fail
  rw [World.ownsMap.len HM.out Tryd.underlying62 _]
  obtain ⟨sz, hsz⟩ : ∃ sz, Maps.size D = sz := ⟨_, rfl⟩
  have HSZ := Lib.hid hsz
  have hszN : sz ≤ N := by rw [← hsz]; exact map_size HM.out
  rw [hsz]
  clear hsz
  obtain ⟨w1, hmk, ho1, hg1⟩ := run_make_own (P := Tryd.prog) w w.heap.size 48 9 i0 _ 1 Tryd.underlying48 HI.out HZ0.out HZ1.out .i64 .i64 sz (by rw [HZ2.out]; omega) (by simp only [maxLen]; omega) (Nat.le_refl _)
  have hb1 : Below w.heap.size w w1 := ⟨hg1.os, hg1.tape, hg1.output, hg1.size, fun k hk => hg1.block k hk (by simp)⟩
  have HB1 := Lib.hid hb1
  have HM1 := Lib.hid (map_kept HM.out hg1 (by simp))
  have HO1 := Lib.hid (show OwnV w1 w.heap.size 9 (.slice (some ⟨w.heap.size, 0, none⟩) 0 sz) (strs []) from ho1)
  clear ho1 hg1 hb1
  go_wp2_with (first | (at_range; go_must (refine wpList_range_own _ rfl (.tmp 8) _ rfl 9 42 Tryd.keyed Tryd.underlying62 _ b N D rfl HM1.out ?_)) | fail)
  intro w2 hrg2 hg2 hs2
  clear hmk
  have HRG2 := Lib.hid hrg2
  have HB2 := Lib.hid (show Below w.heap.size w w2 from HB1.out.trans ⟨hg2.os, hg2.tape, hg2.output, hg2.size, fun k hk => hg2.block k (Nat.lt_of_lt_of_le hk HB1.out.size) (by simp)⟩)
  have HO2 := Lib.hid (show OwnV w2 w.heap.size 9 (.slice (some ⟨w.heap.size, 0, none⟩) 0 sz) (strs []) from World.ownsRow.kept HO1.out hg2 (.inr (by simp [Value.ownBlock])))
  obtain ⟨r, hr⟩ : ∃ r, w1.heap.size = r := ⟨_, rfl⟩
  have HRW := Lib.hid (show w.heap.size < r by
    have := (OwnV.lt HO1.out w.heap.size rfl).2
    omega)
  have HBL := Lib.hid (show b < w.heap.size from HM.out.lt)
  rw [hr] at HRG2 ⊢
  rw [HSZ.out] at HRG2
  have HV0 := Lib.hid (show ∀ g, (Value.slice (some ⟨w.heap.size, 0, none⟩) 0 sz).ownBlock = some g → g ≠ r from fun g hg => by injection hg with hg; have : w.heap.size = g := hg; have := HRW.out; omega)
  have HC0 := Lib.hid (Collected.start D)
  clear hrg2 hg2 hs2 hr HM1 HO1 HB1
  generalize (rowElem w base 3 .i64 : Value → Option (DataW Unit × List MemPlace)) = R at *
  go_wp2_with fail
  go_loopw [3] (fun o wr => ∃ (m c9 cnt : Nat) (A9 : Option Addr) (ss : List (List UInt8)) (left : Lit → Bool), o = .slice A9 m c9 ∧ m ≤ N ∧ Hid (ss.length = m) ∧ Hid (m + cnt ≤ sz) ∧ Hid (wr.ranges Tryd.prog 9 R b r N D left cnt) ∧ Hid (Collected D left ss) ∧ Hid (OwnV wr w.heap.size 9 (.slice A9 m c9) (strs ss)) ∧ Hid (∀ g, (Value.slice A9 m c9).ownBlock = some g → g ≠ r) ∧ Hid (Below w.heap.size w wr)) (fun _ wr => wr.rangeLeft b r)
  case atStart => exact ⟨0, sz, sz, _, [], _, rfl, Nat.zero_le _, Lib.hid rfl, Lib.hid (by omega), HRG2, HC0, HO2, HV0, HB2⟩
  case round =>
    obtain ⟨m, c9, cnt, A9, ss, left, rfl, hm, HSS, HMC, HRG, HC, HO, HVR, HB⟩ := hrel
    rename World => wr
    go_wp2_with (first | (at_next; refine wpList_next_ranges _ rfl (.tmp 9) rfl 9 Tryd.keyed R encStr id (fun key kl h => by obtain ⟨x, hx, _⟩ := Maps.keyOf_str Tryd.underlying9 h; exact ⟨x, hx⟩) (fun v y _ => ⟨v, rfl⟩) b r N D left cnt rfl HRG.out ?_ ?_) | fail)
    · intro hc0 hl0
      have HP := Lib.hid (HC.out.perm HRG.out.owns Tryd.keyed Tryd.underlying9 hl0)
      have HKO := Lib.hid (show ss.mergeSort (fun x y => decide (x ≤ y)) = keysOf D from mergeSort_of_perm HP.out)
      have HKL := Lib.hid (show (keysOf D).length = m by rw [← HKO.out, List.length_mergeSort, HSS.out])
      have HCM := Lib.hid (show m ≤ c9 ∧ c9 ≤ 9223372036854775807 by
        obtain ⟨A', c', e1, h1, h2⟩ := HO.out.form
        injection e1 with _ e2 e3
        have := HSS.out
        simp at h1 e2
        omega)
      clear hc0 hl0
      by_cases hm0 : m = 0
      · subst hm0
        have HK0 := Lib.hid (show keysOf D = [] from List.eq_nil_of_length_eq_zero HKL.out)
        go_wp2_with fail
        refine (Tryd.slices_Sort_string_none A9 c9 wr).mono ?_
        rintro e w4 ⟨rfl, rfl⟩
        go_wp2
        go_ret
        refine ⟨A9, c9, by rw [HK0.out]; rfl, by rw [HK0.out]; exact ⟨rfl, by simp, by have := HCM.out; simp only [maxLen]; omega, fun h => absurd h (by simp)⟩, HB.out, fun h => absurd h (by rw [HK0.out]; simp)⟩
      · obtain ⟨g, hA9, hgw⟩ : ∃ g, A9 = some ⟨g, 0, none⟩ ∧ g < wr.heap.size ∧ w.heap.size ≤ g := by
          rcases HO.out.2 with ⟨h1, h2⟩ | ⟨g, cap, cur, h1, hg1, hh, _⟩
          · have := HSS.out; rw [List.length_map] at h2; omega
          · injection h1 with e1 e2 e3
            exact ⟨g, e1, (Array.getElem?_eq_some_iff.1 hh).1, hg1⟩
        subst hA9
        have HS := Lib.hid (sort_row g c9 ss wr (OwnV.holds HO.out) hgw.1 (by rw [HSS.out]; omega))
        rw [HSS.out] at HS
        go_wp2_with fail
        refine HS.out.mono ?_
        rintro e w4 ⟨rfl, hh4, ht4⟩
        rw [HKO.out] at hh4
        have HRD := Lib.hid (show RdV w4 w4.heap.size (some ⟨g, 0, none⟩) (keysOf D).length c9 (strs (keysOf D)) by
          refine ⟨by simp, by rw [HKL.out]; exact HCM.out.1, by have := HCM.out; simp only [maxLen]; omega, fun _ => ⟨g, 0, rfl, Nat.lt_of_lt_of_le hgw.1 ht4.size, fun j hj => ?_⟩⟩
          have := (hh4 j (by simpa using hj)).1
          rw [this, Mem.strs_at hj]
          simp [encStr, hj])
        have HFZ := Lib.hid (show ∀ j, j < (keysOf D).length → w4.frozen? ⟨g, j, none⟩ = false from fun j hj => by have := (hh4 j (by simpa using hj)).2; simpa using this)
        have HB4 := Lib.hid (HB.out.trans (ht4.below HB.out.size (fun k hk => by have : k = g := hk; omega)))
        clear hh4 ht4
        go_wp2
        go_ret
        refine ⟨some ⟨g, 0, none⟩, c9, by rw [HKL.out]; rfl, HRD.out, HB4.out, fun _ => ⟨g, rfl, hgw.2, HFZ.out⟩⟩
    · intro x c kl y yp w3 cnt3 hkey hlk hv hat hrg3 hlt3 hg3 hs3 hen
      obtain ⟨x', ex, rfl, hxl⟩ := Maps.keyOf_str Tryd.underlying9 hkey
      have ex := encStr_inj ex
      subst ex
      have HC3 := Lib.hid (HC.out.step hlk hat)
      have HRG3 := Lib.hid hrg3
      have HB3 := Lib.hid (show Below w.heap.size w w3 from HB.out.trans ⟨hg3.os, hg3.tape, hg3.output, hg3.size, fun k hk => hg3.block k (Nat.lt_of_lt_of_le hk HB.out.size) (fun e => by injection e with e; have := HRW.out; omega)⟩)
      have HO3 := Lib.hid (show OwnV w3 w.heap.size 9 (.slice A9 m c9) (strs ss) from World.ownsRow.kept HO.out hg3 (by
        cases hv9 : (Value.slice A9 m c9).ownBlock with
        | none => exact .inl rfl
        | some g => exact .inr (fun e => HVR.out g hv9 (by injection e))))
      have HL := Lib.hid (show wr.rangeLeft b r = cnt from HRG.out.left_eq)
      have HMC3 := Lib.hid (show m + 1 + cnt3 ≤ sz ∧ cnt3 < cnt by have := HMC.out; omega)
      have hs3' := HB3.out.size
      have hmN : m + 1 ≤ N := by have := HMC.out; omega
      unfold encStr at hen
      clear hkey hlk hv hat hrg3 hlt3 hg3 hs3
      go_wp2_with (at_builtin; go_must (refine wpList_appV (w3.alloc _) rfl (.tmp 14) (.tmp 16) _ rfl w.heap.size (w3.heap.size + 1) _ i0 _ 16 Tryd.underlying48 HI.out HZ0.out HZ1.out HZ2.out rfl (.slice A9 m c9) (strs ss) (HO3.out.alloc _) rfl (some ⟨w3.heap.size, 0, none⟩) 1 1 [.string ⟨x.toArray⟩] (RdV.fresh w3 _ _) rfl (by simp [Value.oneCell']) (by have := HSS.out; simp; omega) (by have := HSS.out; simp; omega) (by simp; omega) ?_))
      intro v9 w9 hO9 hg9 hat9
      have hl9 : (strs ss ++ [Value.string ⟨x.toArray⟩]).length = m + 1 := by have := HSS.out; simp; omega
      obtain ⟨A10, c10, hv9, -⟩ := hO9.form
      rw [hl9] at hv9
      subst hv9
      have hgw : w3.grownBy w9 (Value.slice A9 m c9).ownBlock := by
        have ho : ∀ kk, kk < w3.heap.size → (w3.alloc (.cells #[.string ⟨x.toArray⟩] 9)).heap[kk]? = w3.heap[kk]? := fun kk hkk => Below.heap_alloc _ _ kk hkk
        exact ⟨hg9.os, hg9.tape, hg9.output, Nat.le_trans (by simp) hg9.size, fun kk hkk hne => (hg9.block kk (by simp; omega) hne).trans (ho kk hkk)⟩
      have HRG9 := Lib.hid (HRG3.out.kept hgw (fun e => by have := (HO3.out.lt b e.symm).1; have := HBL.out; omega) (fun e => HVR.out r e.symm rfl))
      have HO9 := Lib.hid (show OwnV w9 w.heap.size 9 (.slice A10 (m + 1) c10) (strs (ss ++ [x])) by rw [Mem.strs_app]; exact hO9)
      have HB9 := Lib.hid (HB3.out.trans ((Below.refl _ w3).grown hgw hs3' (fun k hk => (HO3.out.lt k hk).1)))
      have HVR9 := Lib.hid (show ∀ g, (Value.slice A10 (m + 1) c10).ownBlock = some g → g ≠ r from fun g hg => by
        rcases hat9 with h | h
        · rw [h] at hg; exact HVR.out g hg
        · rw [h] at hg; injection hg with hg; have := HRG3.out.lt; omega)
      have HSS9 := Lib.hid (show (ss ++ [x]).length = m + 1 by rw [List.length_append, HSS.out]; rfl)
      clear hO9 hg9 hat9 hl9 hgw hen
      go_wp2
      go_roundw
      case rel => exact ⟨m + 1, c10, cnt3, A10, _, _, rfl, hmN, HSS9, Lib.hid HMC3.out.1, HRG9, HC3, HO9, HVR9, HB9⟩
      case measure => rw [HRG9.out.left_eq, HL.out]; exact HMC3.out.2

theorem segTerms_w (g base : Nat) (ds : List M.D) (w : World) (h : SegAt w base g ds) : Calls Tryd.prog 21 #[.pointer (some ⟨g, 0, none⟩)] w (SaysOv (M.keys ds) w) := by
  obtain ⟨A, c, b, N, D, h1, h2, h3, h4, h5, h6, h7⟩ := h
  have c1 : w.cell? ⟨g, 1, none⟩ = some (.map (some b)) := cellAt 1 h1
  have hk := keysInOrder_w (b + 1) b N D w h4 h5
  rw [keys_are (groups_map h4) h6] at hk
  have HK := Lib.hid hk
  clear hk h1 h2 h3 h4 h5 h6 h7
  go_enter Tryd.func21, Tryd.ntmps21
  go_wp2_with fail
  refine HK.out.mono ?_
  rintro e w2 ⟨A2, c2, rfl, hv⟩
  have HV := Lib.hid hv
  clear hv
  go_wp2
  go_ret
  exact ⟨A2, c2, rfl, HV.out⟩

theorem SegAt.turned {w w' : World} {base g gp : Nat} {ds : List M.D} (h : SegAt w base g ds) (hg : w.grownBy w' (some gp)) (hlt : gp < base) : SegAt w' base g ds := by
  obtain ⟨A, c, b, N, D, h1, h2, h3, h4, h5, h6, h7⟩ := h
  refine ⟨A, c, b, N, D, (hg.block g (heapLt h1) (fun e => by injection e with e; omega)).trans h1, h2, ?_, ?_, h5, h6, h7⟩
  · refine World.ownsRow.kept h3 hg ?_
    cases hv : (Value.slice A ds.length c).ownBlock with
    | none => exact .inl rfl
    | some k => exact .inr (fun e => by injection e with e; have := (World.ownsRow.lt h3 k hv).1; omega)
  · exact h4.kept hg (fun e => by injection e with e; omega) (h4.rowsAbove (fun j hj => by injection hj with hj; omega))
theorem grown_trans {w w' w'' : World} {row : Option Nat} (h : w.grownBy w' row) (h' : w'.grownBy w'' row) : w.grownBy w'' row :=
  ⟨h'.os.trans h.os, h'.tape.trans h.tape, h'.output.trans h.output, Nat.le_trans h.size h'.size, fun k hk hne => (h'.block k (Nat.lt_of_lt_of_le hk h.size) hne).trans (h.block k hk hne)⟩
theorem grown_below {w w' w'' : World} {row : Option Nat} {B : Nat} (h : w.grownBy w' row) (hB : w.heap.size ≤ B) (h' : Below B w' w'') : w.grownBy w'' row :=
  ⟨h'.os.trans h.os, h'.tape.trans h.tape, h'.output.trans h.output, Nat.le_trans h.size h'.size, fun k hk hne => (h'.block k (Nat.lt_of_lt_of_le hk hB)).trans (h.block k hk hne)⟩
theorem below_grownBy {w0 w w' : World} {gp : Nat} (h : Below w0.heap.size w0 w) (hg : w.grownBy w' (some gp)) (hle : w0.heap.size ≤ gp) : Below w0.heap.size w0 w' :=
  ⟨hg.os.trans h.os, hg.tape.trans h.tape, hg.output.trans h.output, Nat.le_trans h.size hg.size, fun k hk => (hg.block k (Nat.lt_of_lt_of_le hk h.size) (fun e => by injection e with e; omega)).trans (h.block k hk)⟩
theorem same7_nil (w : World) : Calls Tryd.prog 25 #[.slice none 0 0, .slice none 0 0] w (fun e w' => e = .returned (.bool true) ∧ w' = w) := by
  go_enter Tryd.func25, Tryd.ntmps25
  go_wp2
  go_loopw [5] (fun p wr => p = .int .i64 0 ∧ Hid (wr = w)) (fun _ _ => 0)
  case atStart => exact ⟨rfl, Lib.hid rfl⟩
  case round =>
    obtain ⟨rfl, HE⟩ := hrel
    have he := HE.out
    subst he
    go_wp2
    go_ret
    exact ⟨rfl, rfl⟩
end Go.Proofs.YthhgelaifapmmaaDoor
