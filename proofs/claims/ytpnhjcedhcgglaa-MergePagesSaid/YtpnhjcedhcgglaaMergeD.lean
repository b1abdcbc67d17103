/-
  The document's Put: by a contract.
-/
import Derived.Test.YtpnhjcedhcgglaaMergeC
namespace Go.Proofs.Ytpnhjcedhcgglaa
open Go.RowKit Mem
set_option linter.unusedVariables false
set_option maxRecDepth 100000

/-- a row of entries that the call owns -/
def TellsRow (ds : List M.D) (w : World) (e : Ending) (w' : World) : Prop := ∃ v, e = .returned v ∧ DRow w' w.heap.size v ds ∧ Below w.heap.size w w'
def DocIn (W : World) (g : Nat) (d : M.D) : Prop := W.heap[g]? = some (.cells #[.string ⟨d.id.toArray⟩, .int .i64 d.time, .string ⟨d.text.toArray⟩] 31 (0, 0))
section
variable {w W W' : World} {g : Nat} {d : M.D}
theorem DocIn.on (h : DocIn W g d) (hb : Below W.heap.size W W') : DocIn W' g d := (hb.block g (heapLt h)).trans h
theorem DocIn.cells (h : DocIn W g d) : W.cell? ⟨g, 0, none⟩ = some (.string ⟨d.id.toArray⟩) ∧ W.cell? ⟨g, 1, none⟩ = some (.int .i64 d.time) ∧ W.cell? ⟨g, 2, none⟩ = some (.string ⟨d.text.toArray⟩) := ⟨cellAt 0 h, cellAt 1 h, cellAt 2 h⟩
end

set_option maxHeartbeats 4000000 in
theorem put_any (A : Option Addr) (n c : Nat) (ds : List M.D) (d : M.D) (w : World) (h : RdDocs w w.heap.size A n c ds) (hn : n ≤ 1000000) (ho : M.MOrd M.ahead ds) :
    Calls Try.prog 10 #[.slice A n c, dval d] w (TellsRow (M.dput M.ahead ds d) w) := by
  obtain ⟨i0, hi, hz0, hz1, hz2⟩ := info_of Try.infoDoc
  have HI := Lib.hid hi; have HZ0 := Lib.hid hz0; have HZ1 := Lib.hid hz1; have HZ2 := Lib.hid hz2
  clear hi hz0 hz1 hz2
  have H := Lib.hid h; have HN := Lib.hid h.1
  have hc := h.2.1; have hcm := h.2.2.1
  clear h
  obtain ⟨did, dtm, dtx⟩ := d
  unfold dval
  simp only
  obtain ⟨w1, hw1⟩ : ∃ w1, w1 = w.alloc (.cells #[.string ⟨did.toArray⟩, .int .i64 dtm, .string ⟨dtx.toArray⟩] 31) := ⟨_, rfl⟩
  have HB1 := Lib.hid (show Below w.heap.size w w1 by rw [hw1]; exact (Below.refl _ _).alloc (Nat.le_refl _) _)
  have HBX := Lib.hid (show DocIn w1 w.heap.size ⟨did, dtm, dtx⟩ by rw [hw1]; exact heap_alloc_new w _)
  have HRD := Lib.hid (fun (W : World) (hb : Below w.heap.size w W) => H.out.on hb)
  have HPU := Lib.hid (fun (k : Nat) (hk : k ≤ ds.length) (h1 : ∀ i (hi : i < ds.length), k ≤ i → M.ahead ⟨did, dtm, dtx⟩ ds[i] = true) (h2 : ∀ (h0 : 0 < k), M.ahead ⟨did, dtm, dtx⟩ (ds[k - 1]'(by omega)) = false) => M.put_at M.ahead_pre hk ho h1 h2)
  clear ho
  go_enter Try.func10, Try.ntmps10
  go_wp2
  rw [← hw1]
  clear hw1
  go_loopw [5] (fun p wr => ∃ k : Nat, p = .int .i64 k ∧ k ≤ n ∧ Hid (∀ i (hi : i < ds.length), k ≤ i → M.ahead ⟨did, dtm, dtx⟩ ds[i] = true) ∧ Hid (Below w1.heap.size w1 wr)) (fun p _ => (intOf p).toNat)
  case atStart => exact ⟨n, by go_num, Nat.le_refl _, Lib.hid (fun i hi hk => by have := HN.out; omega), Lib.hid (Below.refl _ _)⟩
  case round =>
    obtain ⟨k, rfl, hk, HIV, HW⟩ := hrel
    rename World => wr
    have HBW := Lib.hid (HB1.out.trans (HW.out.mono HB1.out.size))
    rcases Nat.eq_zero_or_pos k with hk0 | hk0
    · subst hk0
      have HPUT := Lib.hid (HPU.out 0 (Nat.zero_le _) HIV.out (fun h0 => absurd h0 (by omega)))
      clear HPU HIV HBW
      go_wp2_with fail
      go_quiet (fail)
      have HX := Lib.hid (bel_drewN HW.out nq)

      have HW9 := Lib.hid (show Below w.heap.size w (wr.drewN nq) from HB1.out.trans (HX.out.mono HB1.out.size))
      have HV0 := Lib.hid (show DInv w (.slice none 0 0) [] (wr.drewN nq) from ⟨World.ownsRow_nil _ _ _ _, HW9.out⟩)
      go_wp2_with (at_builtin; go_must (refine wpList_appD _ rfl (.tmp 22) (.tmp 25) _ rfl w.heap.size _ _ i0 _ Try.underlying24 HI.out HZ0.out HZ1.out HZ2.out rfl (.slice none 0 0) 0 [] (World.ownsRow_nil _ _ _ _) rfl _ _ _ _ ((HRD.out _ HW9.out).upto hk) rfl (by omega) HW9.out.size ?_))
      intro v2 w2 hrow2 hg2 hat2
      have hv2 := HV0.out.of_row (ys := ds.take 0) (k := 0) (by have := HN.out; simp <;> omega) (by have h := hrow2; first | exact h | (rw [show dcells [] = [] from rfl, List.nil_append]; simpa using h)) hg2
      obtain ⟨A2, c2, rfl, hr2⟩ := hv2.form
      have hlk : ([] ++ ds.take 0).length = 0 := by have := HN.out; simp <;> omega
      have HLK := Lib.hid hlk
      rw [hlk] at hv2 hr2 hrow2 ⊢
      have hc2 := hr2.2.1; have hcm2 := hr2.2.2.1
      have HV2 := Lib.hid hv2
      have HRM := Lib.hid (show World.ownsRow w2 w.heap.size 31 3 (.slice A2 0 c2) 0 (dcells ([] ++ ds.take 0)) by have := hv2.1; unfold DRow at this; rwa [hlk] at this)
      have hb21 : Below w1.heap.size (wr.drewN nq) w2 := (Below.refl _ _).grown hg2 HX.out.size (fun k' hk' => by simp [Value.ownBlock] at hk')
      obtain ⟨y0, y1, y2⟩ := (HBX.out.on (HX.out.trans hb21)).cells
      have hs2 := HV2.out.2.size
      clear hrow2 hg2 hat2 hr2 hv2 hlk hb21
      go_wp2_with (at_builtin; go_must (refine wpList_append_lies _ rfl (.tmp 27) (.tmp 29) _ rfl w.heap.size 31 i0 _ 3 40 Try.underlying24 HI.out HZ0.out HZ1.out HZ2.out rfl (by omega) (.slice A2 0 c2) 0 (dcells ([] ++ ds.take 0)) rfl (HRM.out.alloc _) ⟨w2.heap.size, 0, none⟩ 1 1 [.string ⟨did.toArray⟩, .int .i64 dtm, .string ⟨dtx.toArray⟩] rfl rfl (World.news_of_block (cs := #[.string ⟨did.toArray⟩, .int .i64 dtm, .string ⟨dtx.toArray⟩]) (t := 31) (fr := (0, 0)) (heap_alloc_new w2 _)) (by simp [Value.oneCell']) (by omega) (by simp only [maxLen]; omega) (by omega) (by simp; omega) (w2.heap.size + 1) (by simp) ?_))
      intro g9 cap9 w9 hown9 hgrow9 hat9 hlt9
      have HV9 := Lib.hid (HV2.out.next (x := ⟨did, dtm, dtx⟩) HLK.out hown9 hgrow9)
      have HRN := Lib.hid (show World.ownsRow w9 w.heap.size 31 3 (.slice (some ⟨g9, 0, none⟩) (0 + 1) cap9) (0 + 1) (dcells ([] ++ ds.take 0 ++ [⟨did, dtm, dtx⟩])) by have := HV9.out.1; unfold DRow at this; rwa [List.length_append, HLK.out] at this)
      clear hown9 hgrow9 hat9
      go_wp2_with (at_builtin; go_must (refine wpList_appD _ rfl (.tmp 31) (.tmp 34) _ rfl w.heap.size _ _ i0 _ Try.underlying24 HI.out HZ0.out HZ1.out HZ2.out rfl (.slice (some ⟨g9, 0, none⟩) (0 + 1) cap9) (0 + 1) _ HRN.out rfl _ _ _ _ (HRD.out _ HV9.out.2) rfl (by omega) HV9.out.2.size ?_))
      all_goals
        intro v3 w3 hrow3 hg3 hat3
        have hv3 := HV9.out.of_row (ys := ds) (k := 0 + 1 + n) (by have h1 := HN.out; have h2 := HLK.out; simp only [List.length_append, List.length_cons, List.length_nil, List.length_take] at h2 ⊢; omega) hrow3 hg3
        have HV3 := Lib.hid hv3
        clear hrow3 hg3 hat3 hv3
        go_wp2
        go_ret
        refine ⟨v3, rfl, ?_, HV3.out.2⟩
        have e := HPUT.out
        rw [e]
        have := HV3.out.1
        simpa using this
    · obtain ⟨j, rfl⟩ : ∃ j, k = j + 1 := ⟨k - 1, by omega⟩
      have hj1 : j < ds.length := by have := HN.out; omega
      have hw1 : IntKind.i64.wrap (j : Int) = (j : Int) := by rw [IntKind.wrap_i64]; omega
      have hjm : (j : Int) < (n : Int) := by omega
      have hg0 : decide ((0 : Int) < (j : Int) + 1) = true := decide_eq_true (by omega)
      have hg1 : (0 : Int) < (j : Int) + 1 := by omega
      obtain ⟨x0, x1, x2⟩ := (HBX.out.on HW.out).cells
      obtain ⟨db, off, hA, hdb, hcells⟩ := H.out.2.2.2 (by omega)
      obtain ⟨r0, r1, r2⟩ := hcells j hj1
      have HV := Lib.hid (show TwoS w1 w.heap.size 0 db (off + j * 3) ⟨did, dtm, dtx⟩ ds[j] wr.drew from TwoS.drew ⟨x0, x1, x2, cell_on HBW.out r0, cell_on HBW.out r1, cell_on HBW.out r2, HW.out⟩)
      have HNX := Lib.hid (show M.ahead ⟨did, dtm, dtx⟩ ds[j] = true → ∀ i (hi : i < ds.length), j ≤ i → M.ahead ⟨did, dtm, dtx⟩ ds[i] = true from fun ha i hi hji => by
        rcases Nat.lt_or_ge j i with h | h
        · exact HIV.out i hi h
        · obtain rfl : i = j := by omega
          exact ha)
      have HPUT' := Lib.hid (show M.ahead ⟨did, dtm, dtx⟩ ds[j] = false → M.dput M.ahead ds ⟨did, dtm, dtx⟩ = ds.take (j + 1) ++ ⟨did, dtm, dtx⟩ :: ds.drop (j + 1) from fun ha => HPU.out (j + 1) (by omega) HIV.out (fun _ => ha))
      clear hcells r0 r1 r2 x0 x1 x2 HPU HIV
      generalize ds[j] = y at *
      have HOR := Lib.hid (fun W => ahead_any ⟨did, dtm, dtx⟩ y W)
      obtain ⟨ab, hab⟩ : ∃ ab, M.ahead ⟨did, dtm, dtx⟩ y = ab := ⟨_, rfl⟩
      rw [hab] at HOR HPUT' HNX
      clear hab
      obtain ⟨i2, t2, x2⟩ := y
      unfold dval at HOR
      simp only at HOR
      subst hA
      cases ab
      · have HPUT := Lib.hid (HPUT'.out rfl)
        clear HPUT' HNX
        go_wp2_with fail
        go_region_held3 (fun W => W.cell? ⟨w.heap.size, 0, none⟩ = some (.string ⟨did.toArray⟩) ∧ W.cell? ⟨w.heap.size, 1, none⟩ = some (.int .i64 dtm) ∧ W.cell? ⟨w.heap.size, 2, none⟩ = some (.string ⟨dtx.toArray⟩) ∧
            W.cell? ⟨db, off + j * 3, none⟩ = some (.string ⟨i2.toArray⟩) ∧ W.cell? ⟨db, off + j * 3 + 1, none⟩ = some (.int .i64 t2) ∧ W.cell? ⟨db, off + j * 3 + 2, none⟩ = some (.string ⟨x2.toArray⟩) ∧ Below w1.heap.size w1 W)
          (first | exact hHeld | exact HV.out | exact hV2 | fail)
          (first
            | (go_at_call 13; refine (HOR.out _).mono ?_; rintro e w5 ⟨rfl, hb2⟩; have hV2 := HV.out.on hb2)
            | fail)
        all_goals
          have HX := Lib.hid hV2.bel
          clear hb2 hV2 HBW HW

          have HW9 := Lib.hid (show Below w.heap.size w w5 from HB1.out.trans (HX.out.mono HB1.out.size))
          have HV0 := Lib.hid (show DInv w (.slice none 0 0) [] w5 from ⟨World.ownsRow_nil _ _ _ _, HW9.out⟩)
          go_wp2_with (at_builtin; go_must (refine wpList_appD _ rfl (.tmp 22) (.tmp 25) _ rfl w.heap.size _ _ i0 _ Try.underlying24 HI.out HZ0.out HZ1.out HZ2.out rfl (.slice none 0 0) 0 [] (World.ownsRow_nil _ _ _ _) rfl _ _ _ _ ((HRD.out _ HW9.out).upto hk) rfl (by omega) HW9.out.size ?_))
          intro v2 w2 hrow2 hg2 hat2
          have hv2 := HV0.out.of_row (ys := ds.take (j + 1)) (k := (j + 1)) (by have := HN.out; simp <;> omega) (by have h := hrow2; first | exact h | (rw [show dcells [] = [] from rfl, List.nil_append]; simpa using h)) hg2
          obtain ⟨A2, c2, rfl, hr2⟩ := hv2.form
          have hlk : ([] ++ ds.take (j + 1)).length = (j + 1) := by have := HN.out; simp <;> omega
          have HLK := Lib.hid hlk
          rw [hlk] at hv2 hr2 hrow2 ⊢
          have hc2 := hr2.2.1; have hcm2 := hr2.2.2.1
          have HV2 := Lib.hid hv2
          have HRM := Lib.hid (show World.ownsRow w2 w.heap.size 31 3 (.slice A2 (j + 1) c2) (j + 1) (dcells ([] ++ ds.take (j + 1))) by have := hv2.1; unfold DRow at this; rwa [hlk] at this)
          have hb21 : Below w1.heap.size w5 w2 := (Below.refl _ _).grown hg2 HX.out.size (fun k' hk' => by simp [Value.ownBlock] at hk')
          obtain ⟨y0, y1, y2⟩ := (HBX.out.on (HX.out.trans hb21)).cells
          have hs2 := HV2.out.2.size
          clear hrow2 hg2 hat2 hr2 hv2 hlk hb21
          go_wp2_with (at_builtin; go_must (refine wpList_append_lies _ rfl (.tmp 27) (.tmp 29) _ rfl w.heap.size 31 i0 _ 3 40 Try.underlying24 HI.out HZ0.out HZ1.out HZ2.out rfl (by omega) (.slice A2 (j + 1) c2) (j + 1) (dcells ([] ++ ds.take (j + 1))) rfl (HRM.out.alloc _) ⟨w2.heap.size, 0, none⟩ 1 1 [.string ⟨did.toArray⟩, .int .i64 dtm, .string ⟨dtx.toArray⟩] rfl rfl (World.news_of_block (cs := #[.string ⟨did.toArray⟩, .int .i64 dtm, .string ⟨dtx.toArray⟩]) (t := 31) (fr := (0, 0)) (heap_alloc_new w2 _)) (by simp [Value.oneCell']) (by omega) (by simp only [maxLen]; omega) (by omega) (by simp; omega) (w2.heap.size + 1) (by simp) ?_))
          intro g9 cap9 w9 hown9 hgrow9 hat9 hlt9
          have HV9 := Lib.hid (HV2.out.next (x := ⟨did, dtm, dtx⟩) HLK.out hown9 hgrow9)
          have HRN := Lib.hid (show World.ownsRow w9 w.heap.size 31 3 (.slice (some ⟨g9, 0, none⟩) ((j + 1) + 1) cap9) ((j + 1) + 1) (dcells ([] ++ ds.take (j + 1) ++ [⟨did, dtm, dtx⟩])) by have := HV9.out.1; unfold DRow at this; rwa [List.length_append, HLK.out] at this)
          clear hown9 hgrow9 hat9
          go_wp2_with (at_builtin; go_must (refine wpList_appD _ rfl (.tmp 31) (.tmp 34) _ rfl w.heap.size _ _ i0 _ Try.underlying24 HI.out HZ0.out HZ1.out HZ2.out rfl (.slice (some ⟨g9, 0, none⟩) ((j + 1) + 1) cap9) ((j + 1) + 1) _ HRN.out rfl _ _ _ _ ((HRD.out _ HV9.out.2).from_ hk) rfl (by omega) HV9.out.2.size ?_))
          all_goals
            intro v3 w3 hrow3 hg3 hat3
            have hv3 := HV9.out.of_row (ys := ds.drop (j + 1)) (k := (j + 1) + 1 + (n - (j + 1))) (by have h1 := HN.out; have h2 := HLK.out; simp only [List.length_append, List.length_cons, List.length_nil, List.length_take, List.length_drop] at h2 ⊢; omega) hrow3 hg3
            have HV3 := Lib.hid hv3
            clear hrow3 hg3 hat3 hv3
            go_wp2
            go_ret
            refine ⟨v3, rfl, ?_, HV3.out.2⟩
            have e := HPUT.out
            rw [e]
            have := HV3.out.1
            simpa using this

      · have HNX' := Lib.hid (HNX.out rfl)
        clear HPUT' HNX
        go_wp2_with fail
        go_region_held3 (fun W => W.cell? ⟨w.heap.size, 0, none⟩ = some (.string ⟨did.toArray⟩) ∧ W.cell? ⟨w.heap.size, 1, none⟩ = some (.int .i64 dtm) ∧ W.cell? ⟨w.heap.size, 2, none⟩ = some (.string ⟨dtx.toArray⟩) ∧
            W.cell? ⟨db, off + j * 3, none⟩ = some (.string ⟨i2.toArray⟩) ∧ W.cell? ⟨db, off + j * 3 + 1, none⟩ = some (.int .i64 t2) ∧ W.cell? ⟨db, off + j * 3 + 2, none⟩ = some (.string ⟨x2.toArray⟩) ∧ Below w1.heap.size w1 W)
          (first | exact hHeld | exact HV.out | exact hV2 | fail)
          (first
            | (go_at_call 13; refine (HOR.out _).mono ?_; rintro e w5 ⟨rfl, hb2⟩; have hV2 := HV.out.on hb2)
            | fail)
        all_goals
          have HX := Lib.hid hV2.bel
          clear hb2 hV2 HBW HW
          go_wp2
          go_roundw
          case rel => exact ⟨j, by go_num, by omega, HNX', HX⟩
          case measure => simp [intOf]
end Go.Proofs.Ytpnhjcedhcgglaa
