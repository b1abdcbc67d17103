/-
  An index with one entry: Add, Len, by contracts.
-/
import Derived.Test.YtfapkpaohkdfpaaGreatDoorIdxB
import Derived.Maps.Own
import Derived.Maps.OwnOps
import Derived.Maps.Views
import Derived.Deep.AppendLies
namespace Go.Proofs.YtfapkpaohkdfpaaGreatDoor
open Go.RowKit Mem Go.ChangeShapes
set_option linter.unusedVariables false
set_option maxRecDepth 100000

theorem Tryz.keyedX : Maps.Keyed Tryz.prog 9 := Maps.string_keyed Tryz.underlying9
theorem Tryz.zeroInt (w : World) : (zeroValue 3).run Tryz.prog w = .ok (.int .i64 0) w := by
  have h : (Tryz.prog.info? 3).map (fun i => i.zero) = some (some (.int .i64 0)) := by kernel_rfl
  cases hi : Tryz.prog.info? 3 with
  | none => rw [hi] at h; cases h
  | some i =>
    rw [hi] at h
    simp only [Option.map_some, Option.some.injEq] at h
    simp [zeroValue, typeInfo, hi, h]
theorem keyOf_textX (l : List UInt8) (hs : l.length ≤ 9223372036854775807) : keyOf Tryz.prog 9 (.string ⟨l.toArray⟩) = some (.string l) :=
  WideMaps.keyOf_string_mk (s := ⟨l.toArray⟩) Tryz.underlying9 (show l.length ≤ maxLen by simpa only [maxLen] using hs)
theorem Tryz.look_empty {W : World} {bm : Nat} (hb : W.heap[bm]? = some (.map #[] 0)) (l : List UInt8) (hs : l.length ≤ 9223372036854775807) :
    (Instr.lookup 63 (.map (some bm)) (.string ⟨l.toArray⟩) true).run Tryz.prog W = .ok (.tuple #[.int .i64 0, .bool false]) W := by
  have K := Tryz.keyedX
  simp [Instr.lookup, run_underlying Tryz.underlying63, MapKept.run_getObj_map hb, K.check W _ (keyOf_textX l hs), Instr.findKey, run_underlying Tryz.underlying9, Instr.findNow, Result.andThen]
theorem idxLen_any (gx bm n : Nat) (f m : Int) (s1 s2 : Value) (D : DataW Unit) (w : World) (hx : w.heap[gx]? = some (.cells #[.int .i64 f, .int .i64 m, .map (some bm), s1, s2] 66 (0, 0))) (hm : w.ownsMap Tryz.prog 9 (plainElem Tryz.prog 3) bm n D) :
    Calls Tryz.prog 15 #[.pointer (some ⟨gx, 0, none⟩)] w (fun e w' => e = .returned (.int .i64 (Maps.size D : Nat)) ∧ w' = w) := by
  have c2 : w.cell? ⟨gx, 2, none⟩ = some (.map (some bm)) := cellAt 2 hx
  have HM := Lib.hid hm
  clear hx hm
  go_enter Tryz.func15, Tryz.ntmps15
  go_wp2_with fail
  rw [World.ownsMap.len HM.out Tryz.underlying63 _]
  go_wp2
  go_ret
  exact ⟨rfl, rfl⟩
theorem Tryz.fit_empty (R : Value → Option (DataW Unit × List MemPlace)) : WideElems.Fit Tryz.prog 9 R #[] 0 := by
  obtain ⟨es, clock, hb, F, _⟩ := World.ownsMap_made (H := Unit) (default : World) Tryz.prog 9 R
  rw [heap_alloc_new] at hb
  injection hb with hb
  injection hb with h1 h2
  subst h1 h2
  exact F
theorem Tryz.owns_empty {W : World} {bm : Nat} (hb : W.heap[bm]? = some (.map #[] 0)) : W.ownsMap Tryz.prog 9 (plainElem Tryz.prog 3) bm 0 (.map [] : DataW Unit) :=
  ⟨#[], 0, hb, Tryz.fit_empty _, Nat.le_refl _, rfl⟩

/-- what Add looks up by -/
def AdS (gx gd bm : Nat) (l : List UInt8) (W : World) : Prop := W.cell? ⟨gx, 2, none⟩ = some (.map (some bm)) ∧ W.cell? ⟨gd, 0, none⟩ = some (.string ⟨l.toArray⟩) ∧ (Instr.lookup 63 (.map (some bm)) (.string ⟨l.toArray⟩) true).run Tryz.prog W = .ok (.tuple #[.int .i64 0, .bool false]) W

theorem Tryz.infoDocX : (Tryz.prog.info? 40).map (fun i => (i.zero, i.size, i.bytes)) = some (some (.agg #[.string ⟨#[]⟩, .int .i64 0, .string ⟨#[]⟩]), 3, 40) := by kernel_rfl

set_option maxHeartbeats 4000000 in
theorem addOne_any (w0 : World) (gx bm : Nat) (f m : Int) (hf : 2 ≤ f) (d : M.D) (w : World) (hx : w.heap[gx]? = some (.cells #[.int .i64 f, .int .i64 m, .map (some bm), .slice none 0 0, .slice none 0 0] 66 (0, 0))) (hb : w.heap[bm]? = some (.map #[] 0))
    (hd : M.formB d.id d.text = true) (hdl : d.id.length ≤ 9223372036854775807) (hg : w0.heap.size ≤ gx) (hbm : w0.heap.size ≤ bm) (hW : Below w0.heap.size w0 w) :
    Calls Tryz.prog 13 #[.pointer (some ⟨gx, 0, none⟩), dval d] w (fun e w' => e = .returned (.tuple #[.int .i64 0, .int .i64 0]) ∧ ∃ gl cap, ∃ D : DataW Unit, w'.heap[gx]? = some (.cells #[.int .i64 f, .int .i64 m, .map (some bm), .slice none 0 0, .slice (some ⟨gl, 0, none⟩) 1 cap] 66 (0, 0)) ∧
      RdDocs w' w'.heap.size (some ⟨gl, 0, none⟩) 1 cap [d] ∧ w'.ownsMap Tryz.prog 9 (plainElem Tryz.prog 3) bm 1 D ∧ Maps.size D = 1 ∧ Below w0.heap.size w0 w') := by
  have HFM := Lib.hid (fun W => form_any d W)
  rw [hd] at HFM
  have HDI := Lib.hid (DocIn.new w d)
  have hb1 := (Below.refl w.heap.size w).alloc (Nat.le_refl _) (.cells #[.string ⟨d.id.toArray⟩, .int .i64 d.time, .string ⟨d.text.toArray⟩] 40)
  have HB1 := Lib.hid hb1
  have HX := Lib.hid hx; have HM := Lib.hid hb; have HW := Lib.hid hW
  have hgw := heapLt hx
  have hbw := heapLt hb
  clear hx hb hd hW hb1
  obtain ⟨did, dtm, dtx⟩ := d
  unfold dval at HFM ⊢
  simp only at HFM HDI HB1 hdl ⊢
  go_enter Tryz.func13, Tryz.ntmps13
  go_wp2_with fail
  refine (HFM.out _).mono ?_
  rintro e w2 ⟨rfl, hb2⟩
  have HB2 := Lib.hid (HB1.out.trans (hb2.mono HB1.out.size))
  have HDI2 := Lib.hid (HDI.out.on hb2)
  have HX2 := Lib.hid ((HB2.out.block gx hgw).trans HX.out)
  have HM2 := Lib.hid ((HB2.out.block bm hbw).trans HM.out)
  have hs2 := HB2.out.size
  obtain ⟨y0, y1, y2⟩ := HDI2.out.cells
  have c2 : w2.cell? ⟨gx, 2, none⟩ = some (.map (some bm)) := cellAt 2 HX2.out
  have HV := Lib.hid (show AdS gx w.heap.size bm did w2.drew from ⟨c2, y0, Tryz.look_empty (W := w2.drew) HM2.out did hdl⟩)
  have HLN := Lib.hid (show ∀ k : Nat, Calls Tryz.prog 15 #[.pointer (some ⟨gx, 0, none⟩)] (w2.drewN k) (fun e w' => e = .returned (.int .i64 0) ∧ w' = w2.drewN k) from fun k => idxLen_any gx bm 0 f m _ _ _ (w2.drewN k) HX2.out (Tryz.owns_empty (W := w2.drewN k) HM2.out))
  clear hb2 HFM y0 y1 y2 c2
  go_wp2_with fail
  go_region_held3 (fun W => W.cell? ⟨gx, 2, none⟩ = some (.map (some bm)) ∧ W.cell? ⟨w.heap.size, 0, none⟩ = some (.string ⟨did.toArray⟩) ∧ (Instr.lookup 63 (.map (some bm)) (.string ⟨did.toArray⟩) true).run Tryz.prog W = .ok (.tuple #[.int .i64 0, .bool false]) W)
    (first | exact hHeld | exact HV.out)
    (fail)
  go_wp2_with fail
  refine (HLN.out 1).mono ?_
  rintro e w3 ⟨rfl, hx3⟩
  subst hx3
  obtain ⟨w4, hupd, hown4, hgr4⟩ := World.ownsMap.update (t := 63) (e := 3) (Tryz.owns_empty (W := w2.drewN 2) HM2.out) Tryz.keyedX Tryz.underlying63 (by simp only [maxLen]; omega) (keyOf_textX did hdl) (plainElem_int (P := Tryz.prog) (e := 3) (q := .i64) (a := 0) Tryz.underlying3 (by decide))
  have HOWN4 := Lib.hid hown4; have HGR4 := Lib.hid hgr4
  have d2 : (w2.drewN 2).cell? ⟨gx, 2, none⟩ = some (.map (some bm)) := cellAt (w := w2) 2 HX2.out
  have d0 : (w2.drewN 2).cell? ⟨w.heap.size, 0, none⟩ = some (.string ⟨did.toArray⟩) := HDI2.out.cells.1
  clear hown4 hgr4
  go_wp2_with fail
  go_region_law (fail)
  all_goals
    obtain ⟨i0, hi, hz0, hz1, hz2⟩ := info_of Tryz.infoDocX
    have HI := Lib.hid hi; have HZ0 := Lib.hid hz0; have HZ1 := Lib.hid hz1; have HZ2 := Lib.hid hz2
    clear hi hz0 hz1 hz2 hupd d2 d0
    have hne : gx ≠ bm := fun e => by
      have h1 := HX2.out
      rw [e, HM2.out] at h1
      simp at h1
    have hs4 : w2.heap.size ≤ w4.heap.size := HGR4.out.size
    have HX4 := Lib.hid ((HGR4.out.block gx (show gx < w2.heap.size from heapLt HX2.out) (fun e => hne (by injection e))).trans HX2.out)
    have HD4 := Lib.hid (show DocIn w4 w.heap.size ⟨did, dtm, dtx⟩ from (HGR4.out.block w.heap.size (show w.heap.size < w2.heap.size from heapLt HDI2.out) (fun e => by injection e with e; omega)).trans HDI2.out)
    have HB4 := Lib.hid (show Below w0.heap.size w0 w4 from (HW.out.trans (HB2.out.mono HW.out.size)).trans ⟨HGR4.out.os, HGR4.out.tape, HGR4.out.output, HGR4.out.size, fun k hk => HGR4.out.block k (show k < w2.heap.size by have := HW.out.size; omega) (fun e => by injection e with e; omega)⟩)
    have HC4 := Lib.hid (show w4.drew.cell? ⟨gx, 4, none⟩ = some (.slice none 0 0) from cellAt (w := w4) 4 HX4.out)
    have HF4 := Lib.hid (show w4.drew.frozen? ⟨gx, 4, none⟩ = false from freeAt (w := w4) 4 HX4.out)
    obtain ⟨y0, y1, y2⟩ := HD4.out.cells
    have q0 : w4.drew.cell? ⟨w.heap.size, 0, none⟩ = some (.string ⟨did.toArray⟩) := y0
    have q1 : w4.drew.cell? ⟨w.heap.size, 1, none⟩ = some (.int .i64 dtm) := y1
    have q2 : w4.drew.cell? ⟨w.heap.size, 2, none⟩ = some (.string ⟨dtx.toArray⟩) := y2
    have q4 := HC4.out
    have p4 : w4.cell? ⟨gx, 4, none⟩ = some (.slice none 0 0) := HC4.out
    have hgx4 : gx < w4.heap.size := heapLt HX4.out
    have hgd4 : w.heap.size < w4.heap.size := heapLt HD4.out
    go_wp2_with fail
    go_region_law (first
      | (refine step_append_lies _ (by rfl) _ _ _ (by rfl) w4.heap.size 40 i0 _ 3 40 Tryz.underlying22 HI.out HZ0.out HZ1.out HZ2.out rfl (by omega) (.slice none 0 0) 0 [] (by rfl) (World.ownsRow_nil _ _ _ _)
            ⟨w4.heap.size, 0, none⟩ 1 1 [.string ⟨did.toArray⟩, .int .i64 dtm, .string ⟨dtx.toArray⟩] (by rfl) (by rfl) (World.news_of_block (cs := #[.string ⟨did.toArray⟩, .int .i64 dtm, .string ⟨dtx.toArray⟩]) (t := 40) (fr := (0, 0)) (heap_alloc_new w4.drew _)) (by simp [Value.oneCell'])
            (by omega) (by simp only [maxLen]; omega) (by omega) (by simp) (w4.heap.size + 1) (by simp) ?_; intro gg cap w5 hown5 hgrow5 hat5 hlt5
         have hbk : ∀ k, k < w4.heap.size → w5.heap[k]? = w4.heap[k]? := fun k hk => (hgrow5.block k (by simp; omega) (by simp [Value.ownBlock])).trans (Below.heap_alloc w4.drew _ k hk)
         have hf5 : w5.frozen? ⟨gx, 4, none⟩ = false := (World.frozen?_of_block (a := ⟨gx, 4, none⟩) (hbk gx hgx4)).trans HF4.out
         have r4 : w5.cell? ⟨gx, 4, none⟩ = some (.slice none 0 0) := (World.cell?_of_block (a := ⟨gx, 4, none⟩) (hbk gx hgx4)).trans HC4.out
         have HBK := Lib.hid hbk; have HOWN5 := Lib.hid hown5; have HGR5 := Lib.hid hgrow5
         clear hbk hown5 hgrow5))
    all_goals
      obtain ⟨e5, hgg5⟩ : ∃ e5 : gg < w5.heap.size, w4.heap.size ≤ gg := ⟨(World.ownsRow.lt HOWN5.out gg rfl).2, (World.ownsRow.lt HOWN5.out gg rfl).1⟩
      have HXS := Lib.hid (show (w5.setCell ⟨gx, 4, none⟩ (.slice (some ⟨gg, 0, none⟩) 1 cap)).heap[gx]? = some (.cells #[.int .i64 f, .int .i64 m, .map (some bm), .slice none 0 0, .slice (some ⟨gg, 0, none⟩) 1 cap] 66 (0, 0)) by
        have := heap_setCell_same w5 gx 4 _ _ (.slice (some ⟨gg, 0, none⟩) 1 cap) ((HBK.out gx hgx4).trans HX4.out)
        simpa using this)
      obtain ⟨WF, hWF⟩ : ∃ WF, WF = w5.setCell ⟨gx, 4, none⟩ (.slice (some ⟨gg, 0, none⟩) 1 cap) := ⟨_, rfl⟩
      have HGF := Lib.hid (show w4.grownBy WF (some gx) from ⟨by rw [hWF]; exact HGR5.out.os, by rw [hWF]; exact HGR5.out.tape, by rw [hWF]; exact HGR5.out.output, by rw [hWF]; have := HGR5.out.size; simp [World.setCell] at this ⊢; omega, fun k hk hne => by
        rw [hWF]
        exact (heap_setCell_other w5 ⟨gx, 4, none⟩ k _ (fun e => hne (by rw [e]))).trans (HBK.out k hk)⟩)
      have HRS := Lib.hid (show RdDocs WF WF.heap.size (some ⟨gg, 0, none⟩) 1 cap [⟨did, dtm, dtx⟩] by
        have hcc : 1 ≤ cap ∧ cap ≤ 9223372036854775807 := by
          rcases HOWN5.out.2 with ⟨h1, _⟩ | ⟨g', cap', cur, h1, _, _, h2, h3, _⟩
          · cases h1
          · injection h1 with _ _ e3
            subst e3
            exact ⟨h2, by simpa only [maxLen] using h3⟩
        refine ⟨rfl, hcc.1, hcc.2, fun _ => ⟨gg, 0, rfl, by rw [hWF]; simpa [World.setCell] using e5, fun k hk => ?_⟩⟩
        obtain rfl : k = 0 := by simp at hk; omega
        rw [hWF]
        refine ⟨?_, ?_, ?_⟩
        · rw [World.cell?_setCell_other _ _ _ _ (fun e => by injection e with e; omega)]
          exact World.ownsRow.cellAt HOWN5.out 0 (by omega)
        · rw [World.cell?_setCell_other _ _ _ _ (fun e => by injection e with e; omega)]
          exact World.ownsRow.cellAt HOWN5.out 1 (by omega)
        · rw [World.cell?_setCell_other _ _ _ _ (fun e => by injection e with e; omega)]
          exact World.ownsRow.cellAt HOWN5.out 2 (by omega))
      have HMF := Lib.hid (HOWN4.out.kept HGF.out (fun e => hne (by injection e with e; exact e.symm)))
      have HBF := Lib.hid (show Below w0.heap.size w0 WF from HB4.out.trans ⟨HGF.out.os, HGF.out.tape, HGF.out.output, HGF.out.size, fun k hk => HGF.out.block k (by have := HB4.out.size; omega) (fun e => by injection e with e; omega)⟩)
      have HSZ := Lib.hid (show Maps.size ((DataW.map [] : DataW Unit).put (.string did) (.lit (.int .i64 0))) = 1 from rfl)
      rw [← hWF] at HXS
      have z4 : WF.drew.cell? ⟨gx, 4, none⟩ = some (.slice (some ⟨gg, 0, none⟩) 1 cap) := cellAt (w := WF) 4 HXS.out
      have z0 : WF.drew.cell? ⟨gx, 0, none⟩ = some (.int .i64 f) := cellAt (w := WF) 0 HXS.out
      have HVZ := Lib.hid (show WF.drew.cell? ⟨gx, 4, none⟩ = some (.slice (some ⟨gg, 0, none⟩) 1 cap) ∧ WF.drew.cell? ⟨gx, 0, none⟩ = some (.int .i64 f) from ⟨z4, z0⟩)
      have hq : ((1 : Int) == f) = false := by simp; omega
      subst hWF
      clear z4 z0
      go_wp2_with fail
      go_region_held3 (fun W => W.cell? ⟨gx, 4, none⟩ = some (.slice (some ⟨gg, 0, none⟩) 1 cap) ∧ W.cell? ⟨gx, 0, none⟩ = some (.int .i64 f))
        (first | exact hHeld | exact HVZ.out)
        (fail)
      go_wp2
      go_ret2
      exact ⟨rfl, gg, cap, _, HXS.out, HRS.out, HMF.out, HSZ.out, bel_drewN HBF.out 1⟩
end Go.Proofs.YtfapkpaohkdfpaaGreatDoor
