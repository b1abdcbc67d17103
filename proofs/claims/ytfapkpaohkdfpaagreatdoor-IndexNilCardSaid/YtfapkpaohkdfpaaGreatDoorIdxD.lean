/-
  Finding in an index with one entry (match.Find, the index's Find) by the query that all answer, by contracts.
-/
import Derived.Test.YtfapkpaohkdfpaaGreatDoorIdxC
namespace Go.Proofs.YtfapkpaohkdfpaaGreatDoor
open Go.RowKit Mem Go.ChangeShapes
set_option linter.unusedVariables false
set_option maxRecDepth 100000

theorem step_callX {P : Program} {ops : Array Oper} {o : Oper} {a : Act} {w : World} {K : Act → World → Prop} {Q : Exit → Act → World → Prop} {E : Prop} (hgd : o.guard = none) (f : FuncId) (args : Array Value) (hrun : (execOp a.eval o).run P w = .ok (.enter f args) w)
    {X : Type} (val : X → Value) (S : X → World → Prop) (hc : Calls P f args w (fun e w' => ∃ x, e = .returned (val x) ∧ S x w')) (h : ∀ x w', S x w' → K (a.put o.dst (val x)) w') :
    if Region.wanted o (yielded ops a.tmps) = true then Oper.wp P o a w K Q else E := by
  have hw : Region.wanted o (yielded ops a.tmps) = true := by simp [Region.wanted, hgd]
  rw [if_pos hw]
  unfold Oper.wp
  rw [hrun, Oper.upon_enter]
  refine hc.mono fun e w'' hh => ?_
  obtain ⟨x, rfl, hS⟩ := hh
  exact h x _ hS

def rowV (x : Nat × Nat) : Value := .slice (some ⟨x.1, 0, none⟩) 1 x.2
/-- a row of one entry, new since w -/
def OneAt (d : M.D) (w : World) (x : Nat × Nat) (w' : World) : Prop :=
  w'.ownsRow w.heap.size 40 3 (rowV x) 1 [.string ⟨d.id.toArray⟩, .int .i64 d.time, .string ⟨d.text.toArray⟩] ∧ Below w.heap.size w w'
theorem OneAt.cap {d : M.D} {w w' : World} {x : Nat × Nat} (h : OneAt d w x w') : 1 ≤ x.2 ∧ x.2 ≤ 9223372036854775807 := by
  rcases h.1.2 with ⟨h1, _⟩ | ⟨g', cap', cur, h1, _, _, h2, h3, _⟩
  · cases h1
  · unfold rowV at h1
    injection h1 with _ _ e3
    subst e3
    exact ⟨h2, by simpa only [maxLen] using h3⟩
theorem OneAt.cells {d : M.D} {w w' : World} {x : Nat × Nat} (h : OneAt d w x w') : w'.cell? ⟨x.1, 0, none⟩ = some (.string ⟨d.id.toArray⟩) ∧ w'.cell? ⟨x.1, 1, none⟩ = some (.int .i64 d.time) ∧ w'.cell? ⟨x.1, 2, none⟩ = some (.string ⟨d.text.toArray⟩) :=
  ⟨World.ownsRow.cellAt h.1 0 (by omega), World.ownsRow.cellAt h.1 1 (by omega), World.ownsRow.cellAt h.1 2 (by omega)⟩

set_option maxHeartbeats 4000000 in
theorem mfindOne_any (A : Option Addr) (c : Nat) (d : M.D) (w : World) (h : RdDocs w w.heap.size A 1 c [d]) (hT : Tabs w) (hs : d.text.length ≤ 1073741824) :
    Calls Tryz.prog 42 #[.agg #[.int .u8 0, .string ⟨#[]⟩, .int .i64 0, .slice none 0 0], .slice A 1 c] w (fun e w' => ∃ x, e = .returned (rowV x) ∧ OneAt d w x w') := by
  obtain ⟨i0, hi, hz0, hz1, hz2⟩ := info_of Tryz.infoDocX
  have HI := Lib.hid hi; have HZ0 := Lib.hid hz0; have HZ1 := Lib.hid hz1; have HZ2 := Lib.hid hz2
  clear hi hz0 hz1 hz2
  have hc := h.2.1; have hcm := h.2.2.1
  obtain ⟨db, off, rfl, hdb, hcells⟩ := h.2.2.2 (by omega)
  obtain ⟨q0, q1, q2⟩ := hcells 0 (by simp)
  simp only [List.getElem_cons_zero, Nat.zero_mul, Nat.add_zero] at q0 q1 q2
  have HQ0 := Lib.hid q0; have HQ1 := Lib.hid q1; have HQ2 := Lib.hid q2
  have HH := Lib.hid (fun (W : World) (hW : Below w.heap.size w W) => leaf_any 0 0 [] 0 d W (hT.below hW) hs (by omega) (by omega) rfl (b := true) (by rw [Q.has0]))
  clear h hcells hT q0 q1 q2
  obtain ⟨did, dtm, dtx⟩ := d
  unfold dval at HH
  simp only at HH HQ0 HQ1 HQ2
  obtain ⟨w1, hw1⟩ : ∃ w1, w1 = w.alloc (.cells #[.int .u8 0, .string ⟨#[]⟩, .int .i64 0, .slice none 0 0] 25) := ⟨_, rfl⟩
  have HB1 := Lib.hid (show Below w.heap.size w w1 by rw [hw1]; exact (Below.refl _ _).alloc (Nat.le_refl _) _)
  have HBX := Lib.hid (show BoxIn w1 w.heap.size 0 [] 0 none 0 0 by rw [hw1]; exact BoxIn.new w 0 [] 0 none 0 0)
  have HS := Lib.hid (fun (A : Option Addr) (cc : Nat) (h1 : 1 ≤ cc) (h2 : cc ≤ 9223372036854775807) (f : Value) (W : World) => sortStable1_any A cc h1 h2 f W)
  have HW1 := Lib.hid hw1
  clear hw1
  go_enter Tryz.func42, Tryz.ntmps42
  go_wp2
  rw [← HW1.out]
  go_loopw [5, 10] (fun o p wr => (p = .int .i64 0 ∧ o = .slice none 0 0 ∧ Hid (wr = w1)) ∨ (∃ x : Nat × Nat, p = .int .i64 1 ∧ o = .slice (some ⟨x.1, 0, none⟩) 1 x.2 ∧ Hid (OneAt ⟨did, dtm, dtx⟩ w x wr))) (fun _ p _ => 1 - (intOf p).toNat)
  case atStart => exact .inl ⟨rfl, rfl, Lib.hid rfl⟩
  case round =>
    rcases hrel with ⟨rfl, rfl, HE⟩ | ⟨x, rfl, rfl, HO⟩
    · have he := HE.out
      subst he
      have q0 := cell_on HB1.out HQ0.out
      have q1 := cell_on HB1.out HQ1.out
      have q2 := cell_on HB1.out HQ2.out
      rename World => w1
      have hgw1 : w.heap.size < w1.heap.size := heapLt HBX.out
      have hgw2 : ¬ w.heap.size = w1.heap.size := by omega
      have x0 : w1.cell? ⟨w.heap.size, 0, none⟩ = some (.int .u8 0) := HBX.out.cells.1
      have x1 : w1.cell? ⟨w.heap.size, 1, none⟩ = some (.string ⟨#[]⟩) := HBX.out.cells.2.1
      have x2 : w1.cell? ⟨w.heap.size, 2, none⟩ = some (.int .i64 0) := HBX.out.cells.2.2.1
      have x3 : w1.cell? ⟨w.heap.size, 3, none⟩ = some (.slice none 0 0) := HBX.out.cells.2.2.2
      have hbD := (Below.refl w1.heap.size w1).alloc (Nat.le_refl _) (.cells #[.string ⟨did.toArray⟩, .int .i64 dtm, .string ⟨dtx.toArray⟩] 40)
      have HBD := Lib.hid (HB1.out.trans (hbD.mono HB1.out.size))
      have HDI := Lib.hid (DocIn.new w1 ⟨did, dtm, dtx⟩)
      have HC := Lib.hid (HH.out _ HBD.out)
      clear hbD
      go_wp2_with fail
      refine HC.out.mono ?_
      rintro e w3 ⟨rfl, hb3⟩
      have HB3 := Lib.hid (HBD.out.trans (hb3.mono HBD.out.size))
      obtain ⟨y0, y1, y2⟩ := (HDI.out.on hb3).cells
      simp only at y0 y1 y2
      have hs3 := HB3.out.size
      clear hb3 x0 x1 x2 x3 q0 q1 q2
      go_wp2_with (at_builtin; go_must (refine wpList_append_lies _ rfl (.tmp 17) (.tmp 19) _ rfl w.heap.size 40 i0 _ 3 40 Tryz.underlying22 HI.out HZ0.out HZ1.out HZ2.out rfl (by omega) (.slice none 0 0) 0 [] rfl (World.ownsRow_nil _ _ _ _) ⟨w3.heap.size, 0, none⟩ 1 1 [.string ⟨did.toArray⟩, .int .i64 dtm, .string ⟨dtx.toArray⟩] rfl rfl (World.news_of_block (cs := #[.string ⟨did.toArray⟩, .int .i64 dtm, .string ⟨dtx.toArray⟩]) (t := 40) (fr := (0, 0)) (heap_alloc_new w3 _)) (by simp [Value.oneCell']) (by omega) (by simp only [maxLen]; omega) (by omega) (by simp; omega) (w3.heap.size + 1) (by simp) ?_))
      intro g9 cap9 w9 hown9 hgrow9 hat9 hlt9
      have HO9 := Lib.hid (show OneAt ⟨did, dtm, dtx⟩ w (g9, cap9) w9 from ⟨hown9, HB3.out.trans (((Below.refl w3.heap.size w3).alloc (Nat.le_refl _) _).trans ⟨hgrow9.os, hgrow9.tape, hgrow9.output, hgrow9.size, fun k hk => hgrow9.block k (by simp; omega) (by simp [Value.ownBlock])⟩ |>.mono hs3)⟩)
      clear hown9 hgrow9 hat9
      go_wp2
      go_roundw
      case rel => exact .inr ⟨(g9, cap9), by go_num, rfl, HO9⟩
      case measure => simp [intOf]
    · obtain ⟨k1, k2⟩ := HO.out.cap
      have HSS := Lib.hid (fun (W : World) (f : Value) => HS.out (some ⟨x.1, 0, none⟩) x.2 k1 k2 f W)
      go_wp2_with fail
      refine (HSS.out _ _).mono ?_
      rintro e w4 ⟨rfl, hx⟩
      subst hx
      go_wp2
      go_ret
      exact ⟨x, rfl, HO.out⟩
theorem OneAt.news {d : M.D} {w w' : World} {x : Nat × Nat} (h : OneAt d w x w') : ∀ j u, ([.string ⟨d.id.toArray⟩, .int .i64 d.time, .string ⟨d.text.toArray⟩] : List Value)[j]? = some u → w'.cell? ((⟨x.1, 0, none⟩ : Addr).add j) = some u := fun j u hu => by
  rw [add_none, Nat.zero_add]
  have hj : j < 3 := by have := (List.getElem?_eq_some_iff.1 hu).1; simpa using this
  rw [World.ownsRow.cellAt h.1 j (by omega)]
  exact hu

set_option maxHeartbeats 4000000 in
theorem ifindOne_any (gx bm n : Nat) (f m : Int) (D : DataW Unit) (gl cap : Nat) (d : M.D) (w : World) (hx : w.heap[gx]? = some (.cells #[.int .i64 f, .int .i64 m, .map (some bm), .slice none 0 0, .slice (some ⟨gl, 0, none⟩) 1 cap] 66 (0, 0)))
    (hm : w.ownsMap Tryz.prog 9 (plainElem Tryz.prog 3) bm n D) (hsz : Maps.size D = 1) (hr : RdDocs w w.heap.size (some ⟨gl, 0, none⟩) 1 cap [d]) (hT : Tabs w) (hs : d.text.length ≤ 1073741824) :
    Calls Tryz.prog 22 #[.pointer (some ⟨gx, 0, none⟩), .agg #[.int .u8 0, .string ⟨#[]⟩, .int .i64 0, .slice none 0 0], .int .i64 1] w (fun e w' => ∃ x, e = .returned (.tuple #[rowV x, .int .i64 0]) ∧ OneAt d w x w') := by
  obtain ⟨i0, hi, hz0, hz1, hz2⟩ := info_of Tryz.infoDocX
  have HI := Lib.hid hi; have HZ0 := Lib.hid hz0; have HZ1 := Lib.hid hz1; have HZ2 := Lib.hid hz2
  clear hi hz0 hz1 hz2
  obtain ⟨w1, hw1⟩ : ∃ w1, w1 = w.alloc (.cells #[.int .u8 0, .string ⟨#[]⟩, .int .i64 0, .slice none 0 0] 25) := ⟨_, rfl⟩
  have hb1 : Below w.heap.size w w1 := by rw [hw1]; exact (Below.refl _ _).alloc (Nat.le_refl _) _
  have HB1 := Lib.hid hb1
  have HBX := Lib.hid (show BoxIn w1 w.heap.size 0 [] 0 none 0 0 by rw [hw1]; exact BoxIn.new w 0 [] 0 none 0 0)
  have HX1 := Lib.hid ((hb1.block gx (heapLt hx)).trans hx)
  have hln := idxLen_any gx bm n f m _ _ D w1 HX1.out (by rw [hw1]; exact hm.alloc _)
  rw [hsz] at hln
  have HLN := Lib.hid (show Calls Tryz.prog 15 #[.pointer (some ⟨gx, 0, none⟩)] w1 (fun e w' => e = .returned (.int .i64 1) ∧ w' = w1) from hln)
  have hr1 : RdDocs w1 w1.heap.size (some ⟨gl, 0, none⟩) 1 cap [d] := by
    refine ⟨hr.1, hr.2.1, hr.2.2.1, fun h0 => ?_⟩
    obtain ⟨b, off, e, hb, hc⟩ := hr.2.2.2 h0
    exact ⟨b, off, e, Nat.lt_of_lt_of_le hb hb1.size, fun i hi => ⟨(hb1.cell (p := ⟨b, off + i * 3, none⟩) hb).trans (hc i hi).1, (hb1.cell (p := ⟨b, off + i * 3 + 1, none⟩) hb).trans (hc i hi).2.1, (hb1.cell (p := ⟨b, off + i * 3 + 2, none⟩) hb).trans (hc i hi).2.2⟩⟩
  have HMF := Lib.hid (mfindOne_any (some ⟨gl, 0, none⟩) cap d w1.drew hr1 (hT.below ⟨hb1.os, hb1.tape, hb1.output, hb1.size, hb1.block⟩) hs)
  have HSO := Lib.hid (fun (A : Option Addr) (cc : Nat) (h1 : 1 ≤ cc) (h2 : cc ≤ 9223372036854775807) (f : Value) (W : World) => sort1_any A cc h1 h2 f W)
  have hc1 := hr.2.1; have hcm := hr.2.2.1
  have hc1' : (1 : Int) ≤ (cap : Int) := by omega
  have HW1 := Lib.hid hw1
  clear hw1 hb1 hx hm hr hr1 hT hln
  go_enter Tryz.func22, Tryz.ntmps22
  go_wp2_with fail
  rw [← HW1.out]
  refine HLN.out.mono ?_
  rintro e w1 ⟨rfl, hx⟩
  subst hx
  have c3 : w1.cell? ⟨gx, 3, none⟩ = some (.slice none 0 0) := cellAt 3 HX1.out
  go_wp2
  go_loopw [2, 8, 27] (fun u o p wr => u = .int .i64 1 ∧ o = .slice none 0 0 ∧ p = .int .i64 0 ∧ Hid (wr = w1)) (fun _ _ _ _ => 0)
  case atStart => exact ⟨rfl, rfl, rfl, Lib.hid rfl⟩
  case round =>
    obtain ⟨rfl, rfl, rfl, HE⟩ := hrel
    have he := HE.out
    subst he
    rename World => w1
    have q4 : w1.drew.cell? ⟨gx, 4, none⟩ = some (.slice (some ⟨gl, 0, none⟩) 1 cap) := cellAt (w := w1) 4 HX1.out
    have x0 : w1.drew.cell? ⟨w.heap.size, 0, none⟩ = some (.int .u8 0) := HBX.out.cells.1
    have x1 : w1.drew.cell? ⟨w.heap.size, 1, none⟩ = some (.string ⟨#[]⟩) := HBX.out.cells.2.1
    have x2 : w1.drew.cell? ⟨w.heap.size, 2, none⟩ = some (.int .i64 0) := HBX.out.cells.2.2.1
    have x3 : w1.drew.cell? ⟨w.heap.size, 3, none⟩ = some (.slice none 0 0) := HBX.out.cells.2.2.2
    have hsw1 : w.heap.size ≤ w1.heap.size := HB1.out.size
    clear c3
    go_wp2_with fail
    go_region_law (first
      | (refine step_callX (by rfl) 42 #[.agg #[.int .u8 0, .string ⟨#[]⟩, .int .i64 0, .slice none 0 0], .slice (some ⟨gl, 0, none⟩) 1 cap] (by simp [Act.eval, go_sem]) rowV (OneAt d w1.drew) HMF.out ?_; rintro x w2 hO2; rw [show rowV x = .slice (some ⟨x.1, 0, none⟩) 1 x.2 from rfl]
         have HO2 := Lib.hid hO2
         have hs2 : w1.heap.size ≤ w2.heap.size := hO2.2.size
         clear hO2)
      | (refine step_append_lies _ (by rfl) _ _ _ (by rfl) w2.heap.size 40 i0 _ 3 40 Tryz.underlying22 HI.out HZ0.out HZ1.out HZ2.out rfl (by omega) (.slice none 0 0) 0 [] (by rfl) (World.ownsRow_nil _ _ _ _)
            ⟨x.1, 0, none⟩ 1 x.2 [.string ⟨d.id.toArray⟩, .int .i64 d.time, .string ⟨d.text.toArray⟩] (by rfl) (by rfl) HO2.out.news (by simp [Value.oneCell'])
            (by omega) (by simp only [maxLen]; omega) (by omega) (Nat.le_refl _) w2.heap.size rfl ?_; intro gg cap5 w5 hown5 hgrow5 hat5 hlt5
         have HO5 := Lib.hid (show OneAt d w (gg, cap5) w5 from ⟨by
             have h := hown5
             refine ⟨h.1, ?_⟩
             rcases h.2 with h2 | ⟨g', cap', cur, hv, hg, r⟩
             · exact .inl h2
             · exact .inr ⟨g', cap', cur, hv, by omega, r⟩, (HB1.out.trans (Below.mono (show Below w1.heap.size w1 w2 from ⟨HO2.out.2.os, HO2.out.2.tape, HO2.out.2.output, HO2.out.2.size, HO2.out.2.block⟩) HB1.out.size)).trans ⟨hgrow5.os, hgrow5.tape, hgrow5.output, hgrow5.size, fun k hk => hgrow5.block k (by omega) (by simp [Value.ownBlock])⟩⟩)
         clear hown5 hgrow5 hat5))
    all_goals
      obtain ⟨k1, k2⟩ := HO5.out.cap
      have HSS := Lib.hid (fun (W : World) (f : Value) => HSO.out (some ⟨gg, 0, none⟩) cap5 k1 k2 f W)
      go_wp2_with fail
      refine (HSS.out _ _).mono ?_
      rintro e w6 ⟨rfl, hx6⟩
      subst hx6
      go_wp2
      go_ret2
      exact ⟨(gg, cap5), rfl, HO5.out⟩
end Go.Proofs.YtfapkpaohkdfpaaGreatDoor
