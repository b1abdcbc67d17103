/-
  Joined: CopyL CopyM CopyN CopyO CopyP CopyQ.
-/
import Derived.Test.YtjdkpcibdjhdoaaDoorCopyZ
import Derived.Test.YtjdkpcibdjhdoaaDoorCopyArg
import Derived.Deep.RegionLaw
import Derived.Test.YtjdkpcibdjhdoaaDoorCopyJ
import Derived.Deep.Cut
import Derived.Deep.RegionHeld
namespace Go.Proofs.YtjdkpcibdjhdoaaDoor
open Go.RowKit Mem
set_option linter.unusedVariables false
set_option maxRecDepth 100000

theorem form_lens {id text : List UInt8} (h : M.formB id text = true) : id.length ≤ 32 ∧ text.length ≤ 512 := by
  unfold M.formB at h
  simp only [Bool.and_eq_true, decide_eq_true_eq] at h
  exact ⟨h.1.1.2, h.1.2⟩
theorem ok_of {o : M.O} (h : OpArg o) (hf : M.formB o.doc.id o.doc.text = true) : o.Ok := ⟨h.1, h.2.1, h.2.2, (form_lens hf).1, (form_lens hf).2⟩

set_option maxHeartbeats 2000000 in
theorem encode_ok (o : M.O) (w : World) (h : OpArg o) (hf : M.formB o.doc.id o.doc.text = true) : Calls Tryd.prog 7 #[oval o] w (fun e w' => ∃ v, e = .returned (.tuple #[v, .int .i64 0]) ∧ Own w' w.heap.size 5 v (M.opB o) ∧ Below w.heap.size w w') := by
  have HOB := Lib.hid (fun W => opBytes_any o W (ok_of h hf))
  have HFO := Lib.hid (fun W => form_any o.doc W)
  obtain ⟨wa, hwa⟩ : ∃ wa, wa = w.alloc (.cells #[.int .u64 (o.term : Int), .string ⟨o.doc.id.toArray⟩, .int .i64 o.doc.time, .string ⟨o.doc.text.toArray⟩] 26) := ⟨_, rfl⟩
  have HBA := Lib.hid (show Below w.heap.size w wa by rw [hwa]; exact (Below.refl _ _).alloc (Nat.le_refl _) _)
  have HXA := Lib.hid (show wa.heap[w.heap.size]? = some (.cells #[.int .u64 (o.term : Int), .string ⟨o.doc.id.toArray⟩, .int .i64 o.doc.time, .string ⟨o.doc.text.toArray⟩] 26 (0, 0)) by rw [hwa]; exact heap_alloc_new w _)
  rw [hf] at HFO
  obtain ⟨t, did, dtm, dtx⟩ := o
  unfold oval at HOB ⊢
  unfold dval at HFO
  simp only at HOB HFO HXA hwa ⊢
  clear h hf
  go_enter Tryd.func7, Tryd.ntmps7
  go_wp2_with fail
  rw [← hwa]
  refine (HFO.out _).mono ?_
  rintro e w1 ⟨rfl, hb1⟩
  have hx1 := (hb1.block _ (heapLt HXA.out)).trans HXA.out
  have y0 : w1.cell? ⟨w.heap.size, 0, none⟩ = some (.int .u64 (t : Int)) := cellAt (w := w1) 0 hx1
  have y1 : w1.cell? ⟨w.heap.size, 1, none⟩ = some (.string ⟨did.toArray⟩) := cellAt (w := w1) 1 hx1
  have y2 : w1.cell? ⟨w.heap.size, 2, none⟩ = some (.int .i64 dtm) := cellAt (w := w1) 2 hx1
  have y3 : w1.cell? ⟨w.heap.size, 3, none⟩ = some (.string ⟨dtx.toArray⟩) := cellAt (w := w1) 3 hx1
  have HB1 := Lib.hid (HBA.out.trans (hb1.mono HBA.out.size))
  clear hb1 hx1 hwa HXA HBA
  go_wp2_with fail
  refine (HOB.out _).mono ?_
  rintro e w2 ⟨v, rfl, ho, hb2⟩
  have HO := Lib.hid (ho.less HB1.out.size)
  have HB2 := Lib.hid (HB1.out.trans (hb2.mono HB1.out.size))
  clear ho hb2 y0 y1 y2 y3
  go_wp2
  go_ret2
  exact ⟨_, rfl, HO.out, HB2.out⟩

theorem encode_no (o : M.O) (w : World) (hf : M.formB o.doc.id o.doc.text = false) : Calls Tryd.prog 7 #[oval o] w (fun e w' => e = .returned (.tuple #[.slice none 0 0, .int .i64 3]) ∧ Below w.heap.size w w') := by
  have HFO := Lib.hid (fun W => form_any o.doc W)
  have HBA := Lib.hid ((Below.refl _ _).alloc (Nat.le_refl _) (.cells #[.int .u64 (o.term : Int), .string ⟨o.doc.id.toArray⟩, .int .i64 o.doc.time, .string ⟨o.doc.text.toArray⟩] 26) : Below w.heap.size w _)
  rw [hf] at HFO
  obtain ⟨t, did, dtm, dtx⟩ := o
  unfold oval
  unfold dval at HFO
  simp only at HFO HBA ⊢
  clear hf
  go_enter Tryd.func7, Tryd.ntmps7
  go_wp2_with fail
  refine (HFO.out _).mono ?_
  rintro e w1 ⟨rfl, hb1⟩
  have HB1 := Lib.hid (HBA.out.trans (hb1.mono HBA.out.size))
  clear hb1
  go_wp2
  go_ret2
  exact ⟨rfl, HB1.out⟩

set_option maxHeartbeats 4000000 in
theorem ref_encode_any (o : M.O) (w : World) (h : OpArg o) (hl : o.doc.id.length + o.doc.text.length ≤ 1048576) : Calls Tryd.prog 9 #[oval o] w (GivesP w (M.opB o)) := by
  obtain ⟨i0, hi, hz0, hz1, hz2⟩ := info_parts Tryd.info_byte
  have HI := Lib.hid hi; have HZ0 := Lib.hid hz0; have HZ1 := Lib.hid hz1; have HZ2 := Lib.hid hz2
  clear hi hz0 hz1 hz2
  have he : M.uv o.term ++ (M.text o.doc.id ++ (M.uv (M.zig o.doc.time).toNat ++ M.text o.doc.text)) = M.opB o := by simp [M.opB]
  have HU1 := Lib.hid (fun W => ref_uvarint_any o.term W h.1)
  obtain ⟨hz1, hz2⟩ := M.zig_nat h.2.1 h.2.2
  obtain ⟨z, hz⟩ : ∃ z : Nat, M.zig o.doc.time = (z : Int) := ⟨(M.zig o.doc.time).toNat, by omega⟩
  have HZ := Lib.hid (fun W => ref_zig_any o.doc.time W h.2.1 h.2.2)
  have HU2 := Lib.hid (fun W => ref_uvarint_any z W (by omega))
  have HT1 := Lib.hid (fun W => ref_text_any ⟨o.doc.id.toArray⟩ W (by simp [ByteArray.size]; omega))
  have HT2 := Lib.hid (fun W => ref_text_any ⟨o.doc.text.toArray⟩ W (by simp [ByteArray.size]; omega))
  have hul := M.uv_len o.term; have hul2 := M.uv_len z
  have htl := M.text_len o.doc.id; have htl2 := M.text_len o.doc.text
  rw [hz] at HZ he
  rw [Int.toNat_natCast] at he
  have HE := Lib.hid he
  obtain ⟨wa, hwa⟩ : ∃ wa, wa = w.alloc (.cells #[.int .u64 (o.term : Int), .string ⟨o.doc.id.toArray⟩, .int .i64 o.doc.time, .string ⟨o.doc.text.toArray⟩] 26) := ⟨_, rfl⟩
  have HBA := Lib.hid (show Below w.heap.size w wa by rw [hwa]; exact (Below.refl _ _).alloc (Nat.le_refl _) _)
  have HXA := Lib.hid (show wa.heap[w.heap.size]? = some (.cells #[.int .u64 (o.term : Int), .string ⟨o.doc.id.toArray⟩, .int .i64 o.doc.time, .string ⟨o.doc.text.toArray⟩] 26 (0, 0)) by rw [hwa]; exact heap_alloc_new w _)
  obtain ⟨t, did, dtm, dtx⟩ := o
  unfold oval
  simp only at HU1 HT1 HT2 HZ HE HXA hwa hl hul htl htl2 ⊢
  generalize hl1 : M.uv t = l1 at *
  generalize hl2 : M.text did = l2 at *
  generalize hl3 : M.uv z = l3 at *
  generalize hl4 : M.text dtx = l4 at *
  clear h hz hz1 hz2 he hl1 hl2 hl3 hl4
  have hlt : w.heap.size < wa.heap.size := heapLt HXA.out
  have x0 : wa.cell? ⟨w.heap.size, 0, none⟩ = some (.int .u64 (t : Int)) := cellAt (w := wa) 0 HXA.out
  rw [hwa] at x0
  go_enter Tryd.func9, Tryd.ntmps9
  go_wp2_with fail
  rw [← hwa]
  clear hwa
  refine (HU1.out _).mono ?_
  rintro e w1 ⟨v1, rfl, ho1, hb1⟩
  have hx1 := (hb1.block _ hlt).trans HXA.out
  have y1 : w1.cell? ⟨w.heap.size, 1, none⟩ = some (.string ⟨did.toArray⟩) := cellAt (w := w1) 1 hx1
  clear x0 hx1
  go_wp2_with fail
  refine (HT1.out _).mono ?_
  rintro e w2 ⟨v2, rfl, ho2, hb2⟩
  have ho1' := ho1.below hb2
  have hb02 := hb1.trans (hb2.mono hb1.size)
  obtain ⟨A2, c2, rfl, hr2⟩ := ho2.open_
  clear y1
  go_wp2_with (at_builtin; go_must (refine wpList_app w2 rfl (.tmp 7) (.tmp 11) _ rfl wa.heap.size _ _ i0 Tryd.underlying27 HI.out HZ0.out HZ1.out HZ2.out _ _ ho1' rfl _ _ _ _ hr2 rfl ?_ ?_ ?_))
  · first | omega | (simp; omega)
  · exact hb02.size
  intro v3 w3 ho3 hg3 _
  have hb03 := hb02.trans (below_own ho1' hb02.size hg3)
  have hx3 := (hb03.block _ hlt).trans HXA.out
  have y2 : w3.cell? ⟨w.heap.size, 2, none⟩ = some (.int .i64 dtm) := cellAt (w := w3) 2 hx3
  clear hx3 hr2 ho2 hg3 ho1 ho1' hb1 hb2 hb02
  go_wp2_with fail
  refine (HZ.out _).mono ?_
  rintro e w3' ⟨rfl, rfl⟩
  go_wp2_with fail
  refine (HU2.out _).mono ?_
  rintro e w4 ⟨v4, rfl, ho4, hb4⟩
  have ho3' := ho3.below hb4
  have hb04 := hb03.trans (hb4.mono hb03.size)
  obtain ⟨A4, c4, rfl, hr4⟩ := ho4.open_
  clear y2
  go_wp2_with (at_builtin; go_must (refine wpList_app w4 rfl (.tmp 13) (.tmp 18) _ rfl wa.heap.size _ _ i0 Tryd.underlying27 HI.out HZ0.out HZ1.out HZ2.out _ _ ho3' rfl _ _ _ _ hr4 rfl ?_ ?_ ?_))
  · first | omega | (simp; omega)
  · exact hb04.size
  intro v5 w5 ho5 hg5 _
  have hb05 := hb04.trans (below_own ho3' hb04.size hg5)
  have hx5 := (hb05.block _ hlt).trans HXA.out
  have y3 : w5.cell? ⟨w.heap.size, 3, none⟩ = some (.string ⟨dtx.toArray⟩) := cellAt (w := w5) 3 hx5
  clear hx5 hr4 ho4 hg5 ho3 ho3' hb4 hb03 hb04
  go_wp2_with fail
  refine (HT2.out _).mono ?_
  rintro e w6 ⟨v6, rfl, ho6, hb6⟩
  have ho5' := ho5.below hb6
  have hb06 := hb05.trans (hb6.mono hb05.size)
  obtain ⟨A6, c6, rfl, hr6⟩ := ho6.open_
  clear y3
  go_wp2_with (at_builtin; go_must (refine wpList_app w6 rfl (.tmp 20) (.tmp 24) _ rfl wa.heap.size _ _ i0 Tryd.underlying27 HI.out HZ0.out HZ1.out HZ2.out _ _ ho5' rfl _ _ _ _ hr6 rfl ?_ ?_ ?_))
  · first | omega | (simp; omega)
  · exact hb06.size
  intro v7 w7 ho7 hg7 _
  have hb07 := hb06.trans (below_own ho5' hb06.size hg7)
  have HO := Lib.hid (ho7.less HBA.out.size)
  have HB := Lib.hid (HBA.out.trans (hb07.mono HBA.out.size))
  clear hr6 ho6 hg7 ho5 ho5' hb6 hb05 hb06 ho7 hb07
  go_wp2
  go_ret
  refine ⟨_, rfl, ?_, HB.out⟩
  rw [← HE.out]
  simpa using HO.out
end Go.Proofs.YtjdkpcibdjhdoaaDoor

namespace Go.Proofs.YtjdkpcibdjhdoaaDoor.M
def zO : O := ⟨0, ⟨[], 0, []⟩⟩
/-- the entry at a place, the place behind it, whether there is one -/
def rdOp (l : List UInt8) (at_ : Int) : O × Nat × Bool :=
  if (rdAt l at_).2.2 ≠ 0 then (zO, 0, false)
  else if (rdText l (rdAt l at_).2.1 32).2.2 ≠ 0 then (zO, 0, false)
  else if (rdAt l (rdText l (rdAt l at_).2.1 32).2.1).2.2 ≠ 0 then (zO, 0, false)
  else if (rdText l (rdAt l (rdText l (rdAt l at_).2.1 32).2.1).2.1 512).2.2 ≠ 0 then (zO, 0, false)
  else (⟨(rdAt l at_).1, ⟨(rdText l (rdAt l at_).2.1 32).1, zag (rdAt l (rdText l (rdAt l at_).2.1 32).2.1).1, (rdText l (rdAt l (rdText l (rdAt l at_).2.1 32).2.1).2.1 512).1⟩⟩, (rdText l (rdAt l (rdText l (rdAt l at_).2.1 32).2.1).2.1 512).2.1,
    formB (rdText l (rdAt l at_).2.1 32).1 (rdText l (rdAt l (rdText l (rdAt l at_).2.1 32).2.1).2.1 512).1)
def decOp (l : List UInt8) : O × Nat := if (rdOp l 0).2.2 = true ∧ l.length ≤ (rdOp l 0).2.1 then ((rdOp l 0).1, 0) else (zO, 3)
end Go.Proofs.YtjdkpcibdjhdoaaDoor.M
namespace Go.Proofs.YtjdkpcibdjhdoaaDoor
open Go.RowKit Mem
set_option linter.unusedVariables false
set_option maxRecDepth 100000

section
variable {P : Program}
theorem results_rowO3 {fn : Func} {p u v : Tmp} {ty : TypeId} (h : fn.results = #[.cell p ty, .tmp u, .tmp v]) (tmps : Array Value) (w : World) (g : Nat) (t : TypeId) (cs : Array Value) (fr : Nat × Nat) (d : TypeDesc)
    (hp : tmps.getD p undef = .pointer (some ⟨g, 0, none⟩)) (hg : w.heap[g]? = some (.cells cs t fr))
    (hu : P.underlying ty = some d) (hd : (match d with | .struct _ | .array _ _ => true | _ => false) = true) (hi : (P.info? ty).map (·.size) = some cs.size) :
    (results fn tmps).run P w = .ok (.tuple #[.agg cs, tmps.getD u undef, tmps.getD v undef]) w := by
  have hp' : tmps[p]?.getD undef = .pointer (some ⟨g, 0, none⟩) := by simpa using hp
  simp [results, h, hp', asAddr, run_loadVar_row w g t ty cs fr d hg hu hd hi]
theorem results_rowO2 {fn : Func} {p u : Tmp} {ty : TypeId} (h : fn.results = #[.cell p ty, .tmp u]) (tmps : Array Value) (w : World) (g : Nat) (t : TypeId) (cs : Array Value) (fr : Nat × Nat) (d : TypeDesc)
    (hp : tmps.getD p undef = .pointer (some ⟨g, 0, none⟩)) (hg : w.heap[g]? = some (.cells cs t fr))
    (hu : P.underlying ty = some d) (hd : (match d with | .struct _ | .array _ _ => true | _ => false) = true) (hi : (P.info? ty).map (·.size) = some cs.size) :
    (results fn tmps).run P w = .ok (.tuple #[.agg cs, tmps.getD u undef]) w := by
  have hp' : tmps[p]?.getD undef = .pointer (some ⟨g, 0, none⟩) := by simpa using hp
  simp [results, h, hp', asAddr, run_loadVar_row w g t ty cs fr d hg hu hd hi]
end
theorem Tryd.opSize : (Tryd.prog.info? 26).map (·.size) = some 4 := by kernel_rfl
/-- an entry's block -/
def OpBl (W : World) (g : Nat) (o : M.O) : Prop := W.heap[g]? = some (.cells #[.int .u64 (o.term : Int), .string ⟨o.doc.id.toArray⟩, .int .i64 o.doc.time, .string ⟨o.doc.text.toArray⟩] 26 (0, 0))
theorem OpBl.put {W : World} {g : Nat} {o : M.O} (h : OpBl W g o) (o2 : M.O) : OpBl ((((W.setCell ⟨g, 0, none⟩ (.int .u64 (o2.term : Int))).setCell ⟨g, 1, none⟩ (.string ⟨o2.doc.id.toArray⟩)).setCell ⟨g, 2, none⟩ (.int .i64 o2.doc.time)).setCell ⟨g, 3, none⟩ (.string ⟨o2.doc.text.toArray⟩)) g o2 :=
  (heapSet 3 _ (heapSet 2 _ (heapSet 1 _ (heapSet 0 _ h)))).trans rfl
theorem OpBl.on {W W' : World} {g : Nat} {o : M.O} (h : OpBl W g o) (hb : Below W.heap.size W W') : OpBl W' g o := (hb.block _ (heapLt h)).trans h
theorem belowO {w W : World} {g : Nat} (hb : Below w.heap.size w W) (hg : w.heap.size ≤ g) (u v x y : Value) : Below w.heap.size w ((((W.setCell ⟨g, 0, none⟩ u).setCell ⟨g, 1, none⟩ v).setCell ⟨g, 2, none⟩ x).setCell ⟨g, 3, none⟩ y) :=
  (((hb.setCell (p := ⟨g, 0, none⟩) hg u).setCell (p := ⟨g, 1, none⟩) hg v).setCell (p := ⟨g, 2, none⟩) hg x).setCell (p := ⟨g, 3, none⟩) hg y
theorem OpBl.free {W : World} {g : Nat} {o : M.O} (h : OpBl W g o) : W.frozen? ⟨g, 0, none⟩ = false ∧ W.frozen? ⟨g, 1, none⟩ = false ∧ W.frozen? ⟨g, 2, none⟩ = false ∧ W.frozen? ⟨g, 3, none⟩ = false := ⟨freeAt 0 h, freeAt 1 h, freeAt 2 h, freeAt 3 h⟩
theorem OpBl.cells {W : World} {g : Nat} {o : M.O} (h : OpBl W g o) : W.cell? ⟨g, 0, none⟩ = some (.int .u64 (o.term : Int)) ∧ W.cell? ⟨g, 1, none⟩ = some (.string ⟨o.doc.id.toArray⟩) ∧ W.cell? ⟨g, 2, none⟩ = some (.int .i64 o.doc.time) ∧ W.cell? ⟨g, 3, none⟩ = some (.string ⟨o.doc.text.toArray⟩) := ⟨cellAt 0 h, cellAt 1 h, cellAt 2 h, cellAt 3 h⟩

theorem rdAtTop (l : List UInt8) (k : Int) (hl : l.length ≤ 1073741824) : (M.rdAt l k).2.1 ≤ 2147483648 := by
  rcases M.rdAt_err l k with h | ⟨_, h⟩ | ⟨_, h⟩
  · have := (M.rdAt_le h).2.1; omega
  · rw [h]; simp
  · rw [h]; simp
theorem rdAtSmall (l : List UInt8) (k : Int) : (M.rdAt l k).1 < 18446744073709551616 := by
  rcases M.rdAt_err l k with h | ⟨_, h⟩ | ⟨_, h⟩
  · obtain ⟨_, _, _, _, h3, _⟩ := M.rdAt_ok h; exact h3
  · rw [h]; simp
  · rw [h]; simp
theorem rdTextTop (l : List UInt8) (k m : Int) (hl : l.length ≤ 1073741824) : (M.rdText l k m).2.1 ≤ l.length := by
  unfold M.rdText
  split
  · simp
  · split
    · simp
    · split
      · simp
      · rename_i h0 h1 h2
        have := (M.rdAt_le (l := l) (k := k) (by omega)).2.1
        simp only []
        omega

set_option maxHeartbeats 1000000 in
theorem readOp_any (A : Option Addr) (n c B : Nat) (l : List UInt8) (at_ : Int) (w : World) (h : Rd w B A n c l) (hB : B ≤ w.heap.size) (h1 : -9223372036854775808 ≤ at_) (h2 : at_ ≤ 9223372036854775807) (hn : n ≤ 1073741824) :
    Calls Tryd.prog 23 #[.slice A n c, .int .i64 at_] w (fun e w' => e = .returned (.tuple #[oval (M.rdOp l at_).1, .int .i64 ((M.rdOp l at_).2.1 : Int), .bool (M.rdOp l at_).2.2]) ∧ Below w.heap.size w w') := by
  have HC1 := Lib.hid (fun (W : World) (hb : Below w.heap.size w W) => readUvarint_any A n c B l at_ W (h.below (hb.mono hB)) h1 h2)
  have HRN := Lib.hid (show l.length ≤ 1073741824 by have := h.len; omega)
  obtain ⟨ra, hra⟩ : ∃ ra, M.rdAt l at_ = ra := ⟨_, rfl⟩
  have ha2 : ra.2.1 ≤ 2147483648 := by rw [← hra]; exact rdAtTop _ _ HRN.out
  have ha1 : ra.1 < 18446744073709551616 := by rw [← hra]; exact rdAtSmall _ _
  have HC2 := Lib.hid (fun (W : World) (hb : Below w.heap.size w W) => readText_any A n c B l (ra.2.1 : Int) 32 W (h.below (hb.mono hB)) (by omega) (by omega) (by omega) (by omega))
  obtain ⟨rb, hrb⟩ : ∃ rb, M.rdText l (ra.2.1 : Int) 32 = rb := ⟨_, rfl⟩
  have hb2 : rb.2.1 ≤ 2147483648 := by rw [← hrb]; have := rdTextTop l (ra.2.1 : Int) 32 HRN.out; have := HRN.out; omega
  have HC3 := Lib.hid (fun (W : World) (hb : Below w.heap.size w W) => readUvarint_any A n c B l (rb.2.1 : Int) W (h.below (hb.mono hB)) (by omega) (by omega))
  obtain ⟨rc, hrc⟩ : ∃ rc, M.rdAt l (rb.2.1 : Int) = rc := ⟨_, rfl⟩
  have hc2 : rc.2.1 ≤ 2147483648 := by rw [← hrc]; exact rdAtTop _ _ HRN.out
  have hc1 : rc.1 < 18446744073709551616 := by rw [← hrc]; exact rdAtSmall _ _
  have HC4 := Lib.hid (fun (W : World) (hb : Below w.heap.size w W) => readText_any A n c B l (rc.2.1 : Int) 512 W (h.below (hb.mono hB)) (by omega) (by omega) (by omega) (by omega))
  obtain ⟨rd, hrd⟩ : ∃ rd, M.rdText l (rc.2.1 : Int) 512 = rd := ⟨_, rfl⟩
  have hd2 : rd.2.1 ≤ l.length := by rw [← hrd]; exact rdTextTop l (rc.2.1 : Int) 512 HRN.out
  have HE := Lib.hid (show M.rdOp l at_ = if ra.2.2 ≠ 0 then (M.zO, 0, false) else if rb.2.2 ≠ 0 then (M.zO, 0, false) else if rc.2.2 ≠ 0 then (M.zO, 0, false) else if rd.2.2 ≠ 0 then (M.zO, 0, false) else (⟨ra.1, ⟨rb.1, M.zag rc.1, rd.1⟩⟩, rd.2.1, M.formB rb.1 rd.1) by unfold M.rdOp; rw [hra, hrb, hrc, hrd])
  have HZ := Lib.hid (fun (W : World) => zag_any (rc.1 : Int) W (by omega) (by omega))
  have HFM := Lib.hid (fun (W : World) => form_any ⟨rb.1, M.zag rc.1, rd.1⟩ W)
  unfold dval at HFM
  rw [hra] at HC1
  rw [hrb] at HC2
  rw [hrc] at HC3
  rw [hrd] at HC4
  have HLN := Lib.hid h.len
  have HD2 := Lib.hid hd2
  obtain ⟨wa, hwa⟩ : ∃ wa, wa = w.alloc (.cells #[.int .u64 0, .string ⟨#[]⟩, .int .i64 0, .string ⟨#[]⟩] 26) := ⟨_, rfl⟩
  have HB0 := Lib.hid (show Below w.heap.size w wa by rw [hwa]; exact (Below.refl _ _).alloc (Nat.le_refl _) _)
  have HD0 := Lib.hid (show OpBl wa w.heap.size M.zO by unfold OpBl; rw [hwa]; exact heap_alloc_new w _)
  clear h hra hrb hrc hrd hd2 ha2 ha1 hb2 hc2 hc1 hB h1 h2 hn
  obtain ⟨a1, a2, a3⟩ := ra
  obtain ⟨b1, b2, b3⟩ := rb
  obtain ⟨c1, c2, c3⟩ := rc
  obtain ⟨d1, d2, d3⟩ := rd
  unfold TellsT at HC2 HC4
  unfold Tells at HC1 HC3
  simp only at HC1 HC2 HC3 HC4 HE HZ HFM HD2
  by_cases he1 : a3 ≠ 0
  · have hq : ((a3 : Int) == 0) = false := by simp; omega
    have HX := Lib.hid (show M.rdOp l at_ = (M.zO, 0, false) by rw [HE.out]; simp [he1])
    clear HE
    go_enter Tryd.func23, Tryd.ntmps23
    go_wp2_with fail
    rw [← hwa]
    clear hwa
    refine (HC1.out _ HB0.out).mono ?_
    rintro e w1 ⟨rfl, hw1⟩
    subst hw1
    obtain ⟨f0, f1, f2, f3⟩ := HD0.out.free
    obtain ⟨p0, p1, p2, p3⟩ := HD0.out.cells
    go_wp2
    (try simp only [Exit.inBlock, Exit.then])
    refine bodyPost_ret (results_rowO3 rfl _ _ w.heap.size 26 #[.int .u64 0, .string ⟨#[]⟩, .int .i64 0, .string ⟨#[]⟩] (0, 0) _ rfl (HD0.out.put M.zO) Tryd.underlying26 rfl Tryd.opSize) rfl ?_
    rw [HX.out]
    exact ⟨rfl, belowO HB0.out (Nat.le_refl _) _ _ _ _⟩
  have he1' : a3 = 0 := by omega
  subst he1'
  by_cases he2 : b3 ≠ 0
  · have hq : ((b3 : Int) == 0) = false := by simp; omega
    have HX := Lib.hid (show M.rdOp l at_ = (M.zO, 0, false) by rw [HE.out]; simp [he2])
    clear HE
    go_enter Tryd.func23, Tryd.ntmps23
    go_wp2_with fail
    rw [← hwa]
    clear hwa
    refine (HC1.out _ HB0.out).mono ?_
    rintro e w1 ⟨rfl, hw1⟩
    subst hw1
    go_wp2_with fail
    refine (HC2.out _ HB0.out).mono ?_
    rintro e w2 ⟨rfl, hb2⟩
    have HD2 := Lib.hid (HD0.out.on hb2)
    have HB2 := Lib.hid (HB0.out.trans (hb2.mono HB0.out.size))
    clear hb2
    obtain ⟨f0, f1, f2, f3⟩ := HD2.out.free
    obtain ⟨p0, p1, p2, p3⟩ := HD2.out.cells
    go_wp2
    (try simp only [Exit.inBlock, Exit.then])
    refine bodyPost_ret (results_rowO3 rfl _ _ w.heap.size 26 #[.int .u64 0, .string ⟨#[]⟩, .int .i64 0, .string ⟨#[]⟩] (0, 0) _ rfl (HD2.out.put M.zO) Tryd.underlying26 rfl Tryd.opSize) rfl ?_
    rw [HX.out]
    exact ⟨rfl, belowO HB2.out (Nat.le_refl _) _ _ _ _⟩
  have he2' : b3 = 0 := by omega
  subst he2'
  by_cases he3 : c3 ≠ 0
  · have hq : ((c3 : Int) == 0) = false := by simp; omega
    have HX := Lib.hid (show M.rdOp l at_ = (M.zO, 0, false) by rw [HE.out]; simp [he3])
    clear HE
    go_enter Tryd.func23, Tryd.ntmps23
    go_wp2_with fail
    rw [← hwa]
    clear hwa
    refine (HC1.out _ HB0.out).mono ?_
    rintro e w1 ⟨rfl, hw1⟩
    subst hw1
    go_wp2_with fail
    refine (HC2.out _ HB0.out).mono ?_
    rintro e w2 ⟨rfl, hb2⟩
    have HD2 := Lib.hid (HD0.out.on hb2)
    have HB2 := Lib.hid (HB0.out.trans (hb2.mono HB0.out.size))
    clear hb2
    go_wp2_with fail
    refine (HC3.out _ HB2.out).mono ?_
    rintro e w3 ⟨rfl, hw3⟩
    subst hw3
    obtain ⟨f0, f1, f2, f3⟩ := HD2.out.free
    obtain ⟨p0, p1, p2, p3⟩ := HD2.out.cells
    go_wp2
    (try simp only [Exit.inBlock, Exit.then])
    refine bodyPost_ret (results_rowO3 rfl _ _ w.heap.size 26 #[.int .u64 0, .string ⟨#[]⟩, .int .i64 0, .string ⟨#[]⟩] (0, 0) _ rfl (HD2.out.put M.zO) Tryd.underlying26 rfl Tryd.opSize) rfl ?_
    rw [HX.out]
    exact ⟨rfl, belowO HB2.out (Nat.le_refl _) _ _ _ _⟩
  have he3' : c3 = 0 := by omega
  subst he3'
  by_cases he4 : d3 ≠ 0
  · have hq : ((d3 : Int) == 0) = false := by simp; omega
    have HX := Lib.hid (show M.rdOp l at_ = (M.zO, 0, false) by rw [HE.out]; simp [he4])
    clear HE
    go_enter Tryd.func23, Tryd.ntmps23
    go_wp2_with fail
    rw [← hwa]
    clear hwa
    refine (HC1.out _ HB0.out).mono ?_
    rintro e w1 ⟨rfl, hw1⟩
    subst hw1
    go_wp2_with fail
    refine (HC2.out _ HB0.out).mono ?_
    rintro e w2 ⟨rfl, hb2⟩
    have HD2 := Lib.hid (HD0.out.on hb2)
    have HB2 := Lib.hid (HB0.out.trans (hb2.mono HB0.out.size))
    clear hb2
    go_wp2_with fail
    refine (HC3.out _ HB2.out).mono ?_
    rintro e w3 ⟨rfl, hw3⟩
    subst hw3
    go_wp2_with fail
    refine (HC4.out _ HB2.out).mono ?_
    rintro e w4 ⟨rfl, hb4⟩
    have HD4 := Lib.hid (HD2.out.on hb4)
    have HB4 := Lib.hid (HB2.out.trans (hb4.mono HB2.out.size))
    clear hb4
    obtain ⟨f0, f1, f2, f3⟩ := HD4.out.free
    obtain ⟨p0, p1, p2, p3⟩ := HD4.out.cells
    go_wp2
    (try simp only [Exit.inBlock, Exit.then])
    refine bodyPost_ret (results_rowO3 rfl _ _ w.heap.size 26 #[.int .u64 0, .string ⟨#[]⟩, .int .i64 0, .string ⟨#[]⟩] (0, 0) _ rfl (HD4.out.put M.zO) Tryd.underlying26 rfl Tryd.opSize) rfl ?_
    rw [HX.out]
    exact ⟨rfl, belowO HB4.out (Nat.le_refl _) _ _ _ _⟩
  have he4' : d3 = 0 := by omega
  subst he4'
  have HX := Lib.hid (show M.rdOp l at_ = (⟨a1, ⟨b1, M.zag c1, d1⟩⟩, d2, M.formB b1 d1) by rw [HE.out]; simp)
  generalize M.zag (c1 : Int) = zz at *
  generalize M.formB b1 d1 = bo at *
  clear HE
  go_enter Tryd.func23, Tryd.ntmps23
  go_wp2_with fail
  rw [← hwa]
  clear hwa
  refine (HC1.out _ HB0.out).mono ?_
  rintro e w1 ⟨rfl, hw1⟩
  subst hw1
  go_wp2_with fail
  refine (HC2.out _ HB0.out).mono ?_
  rintro e w2 ⟨rfl, hb2⟩
  have HD2 := Lib.hid (HD0.out.on hb2)
  have HB2 := Lib.hid (HB0.out.trans (hb2.mono HB0.out.size))
  clear hb2
  go_wp2_with fail
  refine (HC3.out _ HB2.out).mono ?_
  rintro e w3 ⟨rfl, hw3⟩
  subst hw3
  go_wp2_with fail
  refine (HC4.out _ HB2.out).mono ?_
  rintro e w4 ⟨rfl, hb4⟩
  have HD4 := Lib.hid (HD2.out.on hb4)
  have HB4 := Lib.hid (HB2.out.trans (hb4.mono HB2.out.size))
  clear hb4
  go_wp2_with fail
  refine (HZ.out _).mono ?_
  rintro e w5 ⟨rfl, hw5⟩
  subst hw5
  go_wp2_with fail
  obtain ⟨wz, hwz⟩ : ∃ wz, wz = w4.alloc (.cells #[.string ⟨b1.toArray⟩, .int .i64 zz, .string ⟨d1.toArray⟩] 24) := ⟨_, rfl⟩
  have hbz : Below w4.heap.size w4 wz := by rw [hwz]; exact (Below.refl _ _).alloc (Nat.le_refl _) _
  have hxz : wz.heap[w4.heap.size]? = some (.cells #[.string ⟨b1.toArray⟩, .int .i64 zz, .string ⟨d1.toArray⟩] 24 (0, 0)) := by rw [hwz]; exact heap_alloc_new w4 _
  have HDZ := Lib.hid (HD4.out.on hbz)
  have HBZ := Lib.hid (HB4.out.trans (hbz.mono HB4.out.size))
  have HXZ := Lib.hid hxz
  have hkp : ∀ Wk : World, Below wz.heap.size wz Wk → Calls Tryd.prog 21 #[.agg #[.string ⟨b1.toArray⟩, .int .i64 zz, .string ⟨d1.toArray⟩]] Wk (fun e w' => ∃ x, e = .returned x ∧ (x = .bool bo ∧ Below wz.heap.size wz w')) := fun Wk hbk => (HFM.out Wk).mono (fun e w' h => ⟨_, h.1, rfl, hbk.trans (h.2.mono hbk.size)⟩)
  have HKP := Lib.hid hkp
  have HZC := Lib.hid (show wz.drew.cell? ⟨w4.heap.size, 0, none⟩ = some (.string ⟨b1.toArray⟩) ∧ wz.drew.cell? ⟨w4.heap.size, 1, none⟩ = some (.int .i64 zz) ∧ wz.drew.cell? ⟨w4.heap.size, 2, none⟩ = some (.string ⟨d1.toArray⟩) from ⟨cellAt (w := wz) 0 hxz, cellAt (w := wz) 1 hxz, cellAt (w := wz) 2 hxz⟩)
  obtain ⟨z0, z1, z2⟩ := HZC.out
  have v0 : wz.cell? ⟨w4.heap.size, 0, none⟩ = some (.string ⟨b1.toArray⟩) := z0
  have v1 : wz.cell? ⟨w4.heap.size, 1, none⟩ = some (.int .i64 zz) := z1
  have v2 : wz.cell? ⟨w4.heap.size, 2, none⟩ = some (.string ⟨d1.toArray⟩) := z2
  rw [← hwz]
  clear hwz hxz hbz hkp
  go_region_law (first
    | (refine step_call' (by rfl) 21 #[.agg #[.string ⟨b1.toArray⟩, .int .i64 zz, .string ⟨d1.toArray⟩]] (by simp [Act.eval, go_sem]) (fun x w' => x = .bool bo ∧ Below wz.heap.size wz w') (HKP.out _ (by first | exact bel_drewN (Below.refl _ wz) 1 | exact Below.refl _ wz)) ?_; rintro v9 w9 ⟨rfl, hb9⟩
       have hd9 := HDZ.out.on hb9
       have hx9 := (hb9.block _ (heapLt HXZ.out)).trans HXZ.out
       obtain ⟨f0, f1, f2, f3⟩ := hd9.free
       obtain ⟨p0, p1, p2, p3⟩ := hd9.cells
       have u0 : w9.cell? ⟨w4.heap.size, 0, none⟩ = some (.string ⟨b1.toArray⟩) := cellAt (w := w9) 0 hx9
       have u1 : w9.cell? ⟨w4.heap.size, 1, none⟩ = some (.int .i64 zz) := cellAt (w := w9) 1 hx9
       have u2 : w9.cell? ⟨w4.heap.size, 2, none⟩ = some (.string ⟨d1.toArray⟩) := cellAt (w := w9) 2 hx9
       have HD9 := Lib.hid hd9
       have HB9 := Lib.hid (HBZ.out.trans (hb9.mono HBZ.out.size))
       clear hd9 hx9 hb9)
    | fail)
  all_goals
    go_wp2
    (try simp only [Exit.inBlock, Exit.then])
    refine bodyPost_ret (results_rowO3 rfl _ _ w.heap.size 26 #[.int .u64 (a1 : Int), .string ⟨b1.toArray⟩, .int .i64 zz, .string ⟨d1.toArray⟩] (0, 0) _ rfl (HD9.out.put ⟨a1, ⟨b1, zz, d1⟩⟩) Tryd.underlying26 rfl Tryd.opSize) rfl ?_
    rw [HX.out]
    exact ⟨rfl, belowO HB9.out (Nat.le_refl _) _ _ _ _⟩

end Go.Proofs.YtjdkpcibdjhdoaaDoor

namespace Go.Proofs.YtjdkpcibdjhdoaaDoor
open Go.RowKit Mem
set_option linter.unusedVariables false
set_option maxRecDepth 100000

set_option maxHeartbeats 1000000 in
theorem decode_any (A : Option Addr) (n c B : Nat) (l : List UInt8) (w : World) (h : Rd w B A n c l) (hB : B ≤ w.heap.size) (hn : n ≤ 1073741824) :
    Calls Tryd.prog 8 #[.slice A n c] w (fun e w' => e = .returned (.tuple #[oval (M.decOp l).1, .int .i64 ((M.decOp l).2 : Int)]) ∧ Below w.heap.size w w') := by
  have HC := Lib.hid (fun (W : World) (hb : Below w.heap.size w W) => readOp_any A n c B l 0 W (h.below (hb.mono hB)) (Nat.le_trans hB hb.size) (by omega) (by omega) hn)
  have HLN := Lib.hid h.len
  obtain ⟨r, hr⟩ : ∃ r, M.rdOp l 0 = r := ⟨_, rfl⟩
  have HE := Lib.hid (show M.decOp l = if r.2.2 = true ∧ l.length ≤ r.2.1 then (r.1, 0) else (M.zO, 3) by unfold M.decOp; rw [hr])
  rw [hr] at HC
  obtain ⟨wa, hwa⟩ : ∃ wa, wa = w.alloc (.cells #[.int .u64 0, .string ⟨#[]⟩, .int .i64 0, .string ⟨#[]⟩] 26) := ⟨_, rfl⟩
  have HB0 := Lib.hid (show Below w.heap.size w wa by rw [hwa]; exact (Below.refl _ _).alloc (Nat.le_refl _) _)
  have HD0 := Lib.hid (show OpBl wa w.heap.size M.zO by unfold OpBl; rw [hwa]; exact heap_alloc_new w _)
  clear h hr hn hB
  obtain ⟨⟨t, did, dtm, dtx⟩, p, bo⟩ := r
  unfold oval at HC
  simp only at HC HE
  cases bo
  · have HX := Lib.hid (show M.decOp l = (M.zO, 3) by rw [HE.out]; simp)
    clear HE
    go_enter Tryd.func8, Tryd.ntmps8
    go_wp2_with fail
    rw [← hwa]
    clear hwa
    refine (HC.out _ HB0.out).mono ?_
    rintro e w1 ⟨rfl, hb1⟩
    obtain ⟨wz, hwz⟩ : ∃ wz, wz = w1.alloc (.cells #[.int .u64 (t : Int), .string ⟨did.toArray⟩, .int .i64 dtm, .string ⟨dtx.toArray⟩] 26) := ⟨_, rfl⟩
    have hbz : Below w1.heap.size w1 wz := by rw [hwz]; exact (Below.refl _ _).alloc (Nat.le_refl _) _
    have HDZ := Lib.hid ((HD0.out.on hb1).on hbz)
    have HBZ := Lib.hid ((HB0.out.trans (hb1.mono HB0.out.size)).trans (hbz.mono (HB0.out.trans (hb1.mono HB0.out.size)).size))
    have hz : OpBl wz w1.heap.size ⟨t, ⟨did, dtm, dtx⟩⟩ := by unfold OpBl; rw [hwz]; exact heap_alloc_new w1 _
    obtain ⟨z0, z1, z2, z3⟩ := hz.cells
    obtain ⟨f0, f1, f2, f3⟩ := HDZ.out.free
    obtain ⟨p0, p1, p2, p3⟩ := HDZ.out.cells
    rw [hwz] at z0 z1 z2 z3 f0 f1 f2 f3 p0 p1 p2 p3
    simp only at z0 z1 z2 z3
    clear hb1 hbz hz
    rw [hwz] at HDZ HBZ
    clear hwz
    go_wp2
    (try simp only [Exit.inBlock, Exit.then])
    refine bodyPost_ret (results_rowO2 rfl _ _ w.heap.size 26 #[.int .u64 0, .string ⟨#[]⟩, .int .i64 0, .string ⟨#[]⟩] (0, 0) _ rfl (HDZ.out.put M.zO) Tryd.underlying26 rfl Tryd.opSize) rfl ?_
    rw [HX.out]
    exact ⟨rfl, belowO HBZ.out (Nat.le_refl _) _ _ _ _⟩
  · by_cases hp : (p : Int) < (n : Int)
    · have HX := Lib.hid (show M.decOp l = (M.zO, 3) by rw [HE.out, if_neg (by have := HLN.out; intro h; have := h.2; omega)])
      clear HE
      go_enter Tryd.func8, Tryd.ntmps8
      go_wp2_with fail
      rw [← hwa]
      clear hwa
      refine (HC.out _ HB0.out).mono ?_
      rintro e w1 ⟨rfl, hb1⟩
      obtain ⟨wz, hwz⟩ : ∃ wz, wz = w1.alloc (.cells #[.int .u64 (t : Int), .string ⟨did.toArray⟩, .int .i64 dtm, .string ⟨dtx.toArray⟩] 26) := ⟨_, rfl⟩
      have hbz : Below w1.heap.size w1 wz := by rw [hwz]; exact (Below.refl _ _).alloc (Nat.le_refl _) _
      have HDZ := Lib.hid ((HD0.out.on hb1).on hbz)
      have HBZ := Lib.hid ((HB0.out.trans (hb1.mono HB0.out.size)).trans (hbz.mono (HB0.out.trans (hb1.mono HB0.out.size)).size))
      have hz : OpBl wz w1.heap.size ⟨t, ⟨did, dtm, dtx⟩⟩ := by unfold OpBl; rw [hwz]; exact heap_alloc_new w1 _
      obtain ⟨z0, z1, z2, z3⟩ := hz.cells
      obtain ⟨f0, f1, f2, f3⟩ := HDZ.out.free
      obtain ⟨p0, p1, p2, p3⟩ := HDZ.out.cells
      rw [hwz] at z0 z1 z2 z3 f0 f1 f2 f3 p0 p1 p2 p3
      simp only at z0 z1 z2 z3
      clear hb1 hbz hz
      rw [hwz] at HDZ HBZ
      clear hwz
      go_wp2
      (try simp only [Exit.inBlock, Exit.then])
      refine bodyPost_ret (results_rowO2 rfl _ _ w.heap.size 26 #[.int .u64 0, .string ⟨#[]⟩, .int .i64 0, .string ⟨#[]⟩] (0, 0) _ rfl (HDZ.out.put M.zO) Tryd.underlying26 rfl Tryd.opSize) rfl ?_
      rw [HX.out]
      exact ⟨rfl, belowO HBZ.out (Nat.le_refl _) _ _ _ _⟩
    · have HX := Lib.hid (show M.decOp l = (⟨t, ⟨did, dtm, dtx⟩⟩, 0) by rw [HE.out, if_pos ⟨rfl, by have := HLN.out; omega⟩])
      clear HE
      go_enter Tryd.func8, Tryd.ntmps8
      go_wp2_with fail
      rw [← hwa]
      clear hwa
      refine (HC.out _ HB0.out).mono ?_
      rintro e w1 ⟨rfl, hb1⟩
      obtain ⟨wz, hwz⟩ : ∃ wz, wz = w1.alloc (.cells #[.int .u64 (t : Int), .string ⟨did.toArray⟩, .int .i64 dtm, .string ⟨dtx.toArray⟩] 26) := ⟨_, rfl⟩
      have hbz : Below w1.heap.size w1 wz := by rw [hwz]; exact (Below.refl _ _).alloc (Nat.le_refl _) _
      have HDZ := Lib.hid ((HD0.out.on hb1).on hbz)
      have HBZ := Lib.hid ((HB0.out.trans (hb1.mono HB0.out.size)).trans (hbz.mono (HB0.out.trans (hb1.mono HB0.out.size)).size))
      have hz : OpBl wz w1.heap.size ⟨t, ⟨did, dtm, dtx⟩⟩ := by unfold OpBl; rw [hwz]; exact heap_alloc_new w1 _
      obtain ⟨z0, z1, z2, z3⟩ := hz.cells
      obtain ⟨f0, f1, f2, f3⟩ := HDZ.out.free
      obtain ⟨p0, p1, p2, p3⟩ := HDZ.out.cells
      rw [hwz] at z0 z1 z2 z3 f0 f1 f2 f3 p0 p1 p2 p3
      simp only at z0 z1 z2 z3
      clear hb1 hbz hz
      rw [hwz] at HDZ HBZ
      clear hwz
      go_wp2
      (try simp only [Exit.inBlock, Exit.then])
      refine bodyPost_ret (results_rowO2 rfl _ _ w.heap.size 26 #[.int .u64 (t : Int), .string ⟨did.toArray⟩, .int .i64 dtm, .string ⟨dtx.toArray⟩] (0, 0) _ rfl (HDZ.out.put ⟨t, ⟨did, dtm, dtx⟩⟩) Tryd.underlying26 rfl Tryd.opSize) rfl ?_
      rw [HX.out]
      exact ⟨rfl, belowO HBZ.out (Nat.le_refl _) _ _ _ _⟩

end Go.Proofs.YtjdkpcibdjhdoaaDoor

namespace Go.Proofs.YtjdkpcibdjhdoaaDoor
open Go.RowKit Mem
set_option linter.unusedVariables false
set_option maxRecDepth 100000

set_option maxHeartbeats 1000000 in
theorem ref_decode_any (A : Option Addr) (n c B : Nat) (l : List UInt8) (w : World) (h : Rd w B A n c l) (hB : B ≤ w.heap.size) (hn : n ≤ 1073741824) :
    Calls Tryd.prog 10 #[.slice A n c] w (fun e w' => e = .returned (.tuple #[oval (M.decOp l).1, .int .i64 ((M.decOp l).2 : Int)]) ∧ Below w.heap.size w w') := by
  have HC1 := Lib.hid (fun (W : World) (hb : Below w.heap.size w W) => ref_readUvarint_any A n c B l 0 W (h.below (hb.mono hB)) (Nat.le_trans hB hb.size) (by omega) (by omega))
  have HRN := Lib.hid (show l.length ≤ 1073741824 by have := h.len; omega)
  obtain ⟨ra, hra⟩ : ∃ ra, M.rdAt l 0 = ra := ⟨_, rfl⟩
  have ha2 : ra.2.1 ≤ 2147483648 := by rw [← hra]; exact rdAtTop _ _ HRN.out
  have ha1 : ra.1 < 18446744073709551616 := by rw [← hra]; exact rdAtSmall _ _
  have HC2 := Lib.hid (fun (W : World) (hb : Below w.heap.size w W) => ref_readText_any A n c B l (ra.2.1 : Int) 32 W (h.below (hb.mono hB)) (Nat.le_trans hB hb.size) (by omega) (by omega) (by omega) (by omega))
  obtain ⟨rb, hrb⟩ : ∃ rb, M.rdText l (ra.2.1 : Int) 32 = rb := ⟨_, rfl⟩
  have hb2 : rb.2.1 ≤ 2147483648 := by rw [← hrb]; have := rdTextTop l (ra.2.1 : Int) 32 HRN.out; have := HRN.out; omega
  have HC3 := Lib.hid (fun (W : World) (hb : Below w.heap.size w W) => ref_readUvarint_any A n c B l (rb.2.1 : Int) W (h.below (hb.mono hB)) (Nat.le_trans hB hb.size) (by omega) (by omega))
  obtain ⟨rc, hrc⟩ : ∃ rc, M.rdAt l (rb.2.1 : Int) = rc := ⟨_, rfl⟩
  have hc2 : rc.2.1 ≤ 2147483648 := by rw [← hrc]; exact rdAtTop _ _ HRN.out
  have hc1 : rc.1 < 18446744073709551616 := by rw [← hrc]; exact rdAtSmall _ _
  have HC4 := Lib.hid (fun (W : World) (hb : Below w.heap.size w W) => ref_readText_any A n c B l (rc.2.1 : Int) 512 W (h.below (hb.mono hB)) (Nat.le_trans hB hb.size) (by omega) (by omega) (by omega) (by omega))
  obtain ⟨rd, hrd⟩ : ∃ rd, M.rdText l (rc.2.1 : Int) 512 = rd := ⟨_, rfl⟩
  have hd2 : rd.2.1 ≤ l.length := by rw [← hrd]; exact rdTextTop l (rc.2.1 : Int) 512 HRN.out
  have HE := Lib.hid (show M.rdOp l 0 = if ra.2.2 ≠ 0 then (M.zO, 0, false) else if rb.2.2 ≠ 0 then (M.zO, 0, false) else if rc.2.2 ≠ 0 then (M.zO, 0, false) else if rd.2.2 ≠ 0 then (M.zO, 0, false) else (⟨ra.1, ⟨rb.1, M.zag rc.1, rd.1⟩⟩, rd.2.1, M.formB rb.1 rd.1) by unfold M.rdOp; rw [hra, hrb, hrc, hrd])
  have HZ := Lib.hid (fun (W : World) => ref_zag_any (rc.1 : Int) W (by omega) (by omega))
  have HFM := Lib.hid (fun (W : World) => ref_form_any ⟨rb.1, M.zag rc.1, rd.1⟩ W)
  unfold dval at HFM
  rw [hra] at HC1
  rw [hrb] at HC2
  rw [hrc] at HC3
  rw [hrd] at HC4
  have HLN := Lib.hid h.len
  have HD2 := Lib.hid hd2
  obtain ⟨wa, hwa⟩ : ∃ wa, wa = w.alloc (.cells #[.int .u64 0, .string ⟨#[]⟩, .int .i64 0, .string ⟨#[]⟩] 26) := ⟨_, rfl⟩
  have HB0 := Lib.hid (show Below w.heap.size w wa by rw [hwa]; exact (Below.refl _ _).alloc (Nat.le_refl _) _)
  have HD0 := Lib.hid (show OpBl wa w.heap.size M.zO by unfold OpBl; rw [hwa]; exact heap_alloc_new w _)
  have h1 := True.intro
  have h2 := True.intro
  clear h hra hrb hrc hrd hd2 ha2 ha1 hb2 hc2 hc1 hB h1 h2 hn
  obtain ⟨a1, a2, a3⟩ := ra
  obtain ⟨b1, b2, b3⟩ := rb
  obtain ⟨c1, c2, c3⟩ := rc
  obtain ⟨d1, d2, d3⟩ := rd
  unfold TellsT at HC2 HC4
  unfold TellsB at HC1 HC3
  simp only at HC1 HC2 HC3 HC4 HE HZ HFM HD2
  by_cases he1 : a3 ≠ 0
  · have hq : ((a3 : Int) == 0) = false := by simp; omega
    have HX := Lib.hid (show M.decOp l = (M.zO, 3) by unfold M.decOp; rw [HE.out]; simp [he1])
    clear HE
    go_enter Tryd.func10, Tryd.ntmps10
    go_wp2_with fail
    rw [← hwa]
    clear hwa
    refine (HC1.out _ HB0.out).mono ?_
    rintro e w1 ⟨rfl, hb1⟩
    have HD1 := Lib.hid (HD0.out.on hb1)
    have HB1 := Lib.hid (HB0.out.trans (hb1.mono HB0.out.size))
    clear hb1
    obtain ⟨f0, f1, f2, f3⟩ := HD1.out.free
    obtain ⟨p0, p1, p2, p3⟩ := HD1.out.cells
    go_wp2
    (try simp only [Exit.inBlock, Exit.then])
    refine bodyPost_ret (results_rowO2 rfl _ _ w.heap.size 26 #[.int .u64 0, .string ⟨#[]⟩, .int .i64 0, .string ⟨#[]⟩] (0, 0) _ rfl (HD1.out.put M.zO) Tryd.underlying26 rfl Tryd.opSize) rfl ?_
    rw [HX.out]
    exact ⟨rfl, belowO HB1.out (Nat.le_refl _) _ _ _ _⟩
  have he1' : a3 = 0 := by omega
  subst he1'
  by_cases he2 : b3 ≠ 0
  · have hq : ((b3 : Int) == 0) = false := by simp; omega
    have HX := Lib.hid (show M.decOp l = (M.zO, 3) by unfold M.decOp; rw [HE.out]; simp [he2])
    clear HE
    go_enter Tryd.func10, Tryd.ntmps10
    go_wp2_with fail
    rw [← hwa]
    clear hwa
    refine (HC1.out _ HB0.out).mono ?_
    rintro e w1 ⟨rfl, hb1⟩
    have HD1 := Lib.hid (HD0.out.on hb1)
    have HB1 := Lib.hid (HB0.out.trans (hb1.mono HB0.out.size))
    clear hb1
    go_wp2_with fail
    refine (HC2.out _ HB1.out).mono ?_
    rintro e w2 ⟨rfl, hb2⟩
    have HD2 := Lib.hid (HD1.out.on hb2)
    have HB2 := Lib.hid (HB1.out.trans (hb2.mono HB1.out.size))
    clear hb2
    obtain ⟨f0, f1, f2, f3⟩ := HD2.out.free
    obtain ⟨p0, p1, p2, p3⟩ := HD2.out.cells
    go_wp2
    (try simp only [Exit.inBlock, Exit.then])
    refine bodyPost_ret (results_rowO2 rfl _ _ w.heap.size 26 #[.int .u64 0, .string ⟨#[]⟩, .int .i64 0, .string ⟨#[]⟩] (0, 0) _ rfl (HD2.out.put M.zO) Tryd.underlying26 rfl Tryd.opSize) rfl ?_
    rw [HX.out]
    exact ⟨rfl, belowO HB2.out (Nat.le_refl _) _ _ _ _⟩
  have he2' : b3 = 0 := by omega
  subst he2'
  by_cases he3 : c3 ≠ 0
  · have hq : ((c3 : Int) == 0) = false := by simp; omega
    have HX := Lib.hid (show M.decOp l = (M.zO, 3) by unfold M.decOp; rw [HE.out]; simp [he3])
    clear HE
    go_enter Tryd.func10, Tryd.ntmps10
    go_wp2_with fail
    rw [← hwa]
    clear hwa
    refine (HC1.out _ HB0.out).mono ?_
    rintro e w1 ⟨rfl, hb1⟩
    have HD1 := Lib.hid (HD0.out.on hb1)
    have HB1 := Lib.hid (HB0.out.trans (hb1.mono HB0.out.size))
    clear hb1
    go_wp2_with fail
    refine (HC2.out _ HB1.out).mono ?_
    rintro e w2 ⟨rfl, hb2⟩
    have HD2 := Lib.hid (HD1.out.on hb2)
    have HB2 := Lib.hid (HB1.out.trans (hb2.mono HB1.out.size))
    clear hb2
    go_wp2_with fail
    refine (HC3.out _ HB2.out).mono ?_
    rintro e w3 ⟨rfl, hb3⟩
    have HD3 := Lib.hid (HD2.out.on hb3)
    have HB3 := Lib.hid (HB2.out.trans (hb3.mono HB2.out.size))
    clear hb3
    obtain ⟨f0, f1, f2, f3⟩ := HD3.out.free
    obtain ⟨p0, p1, p2, p3⟩ := HD3.out.cells
    go_wp2
    (try simp only [Exit.inBlock, Exit.then])
    refine bodyPost_ret (results_rowO2 rfl _ _ w.heap.size 26 #[.int .u64 0, .string ⟨#[]⟩, .int .i64 0, .string ⟨#[]⟩] (0, 0) _ rfl (HD3.out.put M.zO) Tryd.underlying26 rfl Tryd.opSize) rfl ?_
    rw [HX.out]
    exact ⟨rfl, belowO HB3.out (Nat.le_refl _) _ _ _ _⟩
  have he3' : c3 = 0 := by omega
  subst he3'
  generalize hzz : M.zag (c1 : Int) = zz at *
  generalize hbo : M.formB b1 d1 = bo at *
  clear hzz hbo
  by_cases he4 : d3 ≠ 0
  · have hq : ((d3 : Int) == 0) = false := by simp; omega
    have HX := Lib.hid (show M.decOp l = (M.zO, 3) by unfold M.decOp; rw [HE.out]; simp [he4])
    clear HE
    go_enter Tryd.func10, Tryd.ntmps10
    go_wp2_with fail
    rw [← hwa]
    clear hwa
    refine (HC1.out _ HB0.out).mono ?_
    rintro e w1 ⟨rfl, hb1⟩
    have HD1 := Lib.hid (HD0.out.on hb1)
    have HB1 := Lib.hid (HB0.out.trans (hb1.mono HB0.out.size))
    clear hb1
    go_wp2_with fail
    refine (HC2.out _ HB1.out).mono ?_
    rintro e w2 ⟨rfl, hb2⟩
    have HD2 := Lib.hid (HD1.out.on hb2)
    have HB2 := Lib.hid (HB1.out.trans (hb2.mono HB1.out.size))
    clear hb2
    go_wp2_with fail
    refine (HC3.out _ HB2.out).mono ?_
    rintro e w3 ⟨rfl, hb3⟩
    have HD3 := Lib.hid (HD2.out.on hb3)
    have HB3 := Lib.hid (HB2.out.trans (hb3.mono HB2.out.size))
    clear hb3
    go_wp2_with fail
    refine (HC4.out _ HB3.out).mono ?_
    rintro e w4 ⟨rfl, hb4⟩
    have HD4 := Lib.hid (HD3.out.on hb4)
    have HB4 := Lib.hid (HB3.out.trans (hb4.mono HB3.out.size))
    clear hb4
    go_wp2_with fail
    refine (HZ.out _).mono ?_
    rintro e w5 ⟨rfl, hw5⟩
    subst hw5
    obtain ⟨wz, hwz⟩ : ∃ wz, wz = w4.alloc (.cells #[.int .u64 (a1 : Int), .string ⟨b1.toArray⟩, .int .i64 zz, .string ⟨d1.toArray⟩] 26) := ⟨_, rfl⟩
    have hbz : Below w4.heap.size w4 wz := by rw [hwz]; exact (Below.refl _ _).alloc (Nat.le_refl _) _
    have HDZ := Lib.hid (HD4.out.on hbz)
    have HBZ := Lib.hid (HB4.out.trans (hbz.mono HB4.out.size))
    have HOZ := Lib.hid (show OpBl wz w4.heap.size ⟨a1, ⟨b1, zz, d1⟩⟩ by unfold OpBl; rw [hwz]; exact heap_alloc_new w4 _)
    obtain ⟨z0, z1, z2, z3⟩ := HOZ.out.cells
    obtain ⟨f0, f1, f2, f3⟩ := HDZ.out.free
    obtain ⟨p0, p1, p2, p3⟩ := HDZ.out.cells
    rw [hwz] at z0 z1 z2 z3 f0 f1 f2 f3 p0 p1 p2 p3
    simp only at z0 z1 z2 z3
    rw [hwz] at HDZ HBZ
    clear hwz hbz
    go_wp2
    (try simp only [Exit.inBlock, Exit.then])
    refine bodyPost_ret (results_rowO2 rfl _ _ w.heap.size 26 #[.int .u64 0, .string ⟨#[]⟩, .int .i64 0, .string ⟨#[]⟩] (0, 0) _ rfl (HDZ.out.put M.zO) Tryd.underlying26 rfl Tryd.opSize) rfl ?_
    rw [HX.out]
    exact ⟨rfl, belowO HBZ.out (Nat.le_refl _) _ _ _ _⟩
  have he4' : d3 = 0 := by omega
  subst he4'
  by_cases hp : (d2 : Int) = (n : Int)
  · obtain rfl : d2 = n := by omega
    cases bo
    · have HX := Lib.hid (show M.decOp l = (M.zO, 3) by unfold M.decOp; rw [HE.out]; simp)
      clear HE hp
      go_enter Tryd.func10, Tryd.ntmps10
      go_wp2_with fail
      rw [← hwa]
      clear hwa
      refine (HC1.out _ HB0.out).mono ?_
      rintro e w1 ⟨rfl, hb1⟩
      have HD1 := Lib.hid (HD0.out.on hb1)
      have HB1 := Lib.hid (HB0.out.trans (hb1.mono HB0.out.size))
      clear hb1
      go_wp2_with fail
      refine (HC2.out _ HB1.out).mono ?_
      rintro e w2 ⟨rfl, hb2⟩
      have HD2 := Lib.hid (HD1.out.on hb2)
      have HB2 := Lib.hid (HB1.out.trans (hb2.mono HB1.out.size))
      clear hb2
      go_wp2_with fail
      refine (HC3.out _ HB2.out).mono ?_
      rintro e w3 ⟨rfl, hb3⟩
      have HD3 := Lib.hid (HD2.out.on hb3)
      have HB3 := Lib.hid (HB2.out.trans (hb3.mono HB2.out.size))
      clear hb3
      go_wp2_with fail
      refine (HC4.out _ HB3.out).mono ?_
      rintro e w4 ⟨rfl, hb4⟩
      have HD4 := Lib.hid (HD3.out.on hb4)
      have HB4 := Lib.hid (HB3.out.trans (hb4.mono HB3.out.size))
      clear hb4
      go_wp2_with fail
      refine (HZ.out _).mono ?_
      rintro e w5 ⟨rfl, hw5⟩
      subst hw5
      obtain ⟨wz, hwz⟩ : ∃ wz, wz = w4.alloc (.cells #[.int .u64 (a1 : Int), .string ⟨b1.toArray⟩, .int .i64 zz, .string ⟨d1.toArray⟩] 26) := ⟨_, rfl⟩
      have hbz : Below w4.heap.size w4 wz := by rw [hwz]; exact (Below.refl _ _).alloc (Nat.le_refl _) _
      have HDZ := Lib.hid (HD4.out.on hbz)
      have HBZ := Lib.hid (HB4.out.trans (hbz.mono HB4.out.size))
      have HOZ := Lib.hid (show OpBl wz w4.heap.size ⟨a1, ⟨b1, zz, d1⟩⟩ by unfold OpBl; rw [hwz]; exact heap_alloc_new w4 _)
      obtain ⟨z0, z1, z2, z3⟩ := HOZ.out.cells
      have HWZ := Lib.hid hwz
      rw [hwz] at z0 z1 z2 z3
      simp only at z0 z1 z2 z3
      clear hwz hbz
      go_wp2_with fail
      rw [← HWZ.out]
      refine (HFM.out _).mono ?_
      rintro e w6 ⟨rfl, hb6⟩
      have HD6 := Lib.hid (HDZ.out.on hb6)
      have HB6 := Lib.hid (HBZ.out.trans (hb6.mono HBZ.out.size))
      obtain ⟨y0, y1, y2, y3⟩ := (HOZ.out.on hb6).cells
      obtain ⟨f0, f1, f2, f3⟩ := HD6.out.free
      obtain ⟨p0, p1, p2, p3⟩ := HD6.out.cells
      simp only at y0 y1 y2 y3
      clear hb6 z0 z1 z2 z3 HWZ
      go_wp2
      (try simp only [Exit.inBlock, Exit.then])
      refine bodyPost_ret (results_rowO2 rfl _ _ w.heap.size 26 #[.int .u64 0, .string ⟨#[]⟩, .int .i64 0, .string ⟨#[]⟩] (0, 0) _ rfl (HD6.out.put M.zO) Tryd.underlying26 rfl Tryd.opSize) rfl ?_
      rw [HX.out]
      exact ⟨rfl, belowO HB6.out (Nat.le_refl _) _ _ _ _⟩
    · have HX := Lib.hid (show M.decOp l = (⟨a1, ⟨b1, zz, d1⟩⟩, 0) by unfold M.decOp; rw [HE.out]; have := HLN.out; have e : l.length ≤ d2 := (by omega); simp [e])
      clear HE hp
      go_enter Tryd.func10, Tryd.ntmps10
      go_wp2_with fail
      rw [← hwa]
      clear hwa
      refine (HC1.out _ HB0.out).mono ?_
      rintro e w1 ⟨rfl, hb1⟩
      have HD1 := Lib.hid (HD0.out.on hb1)
      have HB1 := Lib.hid (HB0.out.trans (hb1.mono HB0.out.size))
      clear hb1
      go_wp2_with fail
      refine (HC2.out _ HB1.out).mono ?_
      rintro e w2 ⟨rfl, hb2⟩
      have HD2 := Lib.hid (HD1.out.on hb2)
      have HB2 := Lib.hid (HB1.out.trans (hb2.mono HB1.out.size))
      clear hb2
      go_wp2_with fail
      refine (HC3.out _ HB2.out).mono ?_
      rintro e w3 ⟨rfl, hb3⟩
      have HD3 := Lib.hid (HD2.out.on hb3)
      have HB3 := Lib.hid (HB2.out.trans (hb3.mono HB2.out.size))
      clear hb3
      go_wp2_with fail
      refine (HC4.out _ HB3.out).mono ?_
      rintro e w4 ⟨rfl, hb4⟩
      have HD4 := Lib.hid (HD3.out.on hb4)
      have HB4 := Lib.hid (HB3.out.trans (hb4.mono HB3.out.size))
      clear hb4
      go_wp2_with fail
      refine (HZ.out _).mono ?_
      rintro e w5 ⟨rfl, hw5⟩
      subst hw5
      obtain ⟨wz, hwz⟩ : ∃ wz, wz = w4.alloc (.cells #[.int .u64 (a1 : Int), .string ⟨b1.toArray⟩, .int .i64 zz, .string ⟨d1.toArray⟩] 26) := ⟨_, rfl⟩
      have hbz : Below w4.heap.size w4 wz := by rw [hwz]; exact (Below.refl _ _).alloc (Nat.le_refl _) _
      have HDZ := Lib.hid (HD4.out.on hbz)
      have HBZ := Lib.hid (HB4.out.trans (hbz.mono HB4.out.size))
      have HOZ := Lib.hid (show OpBl wz w4.heap.size ⟨a1, ⟨b1, zz, d1⟩⟩ by unfold OpBl; rw [hwz]; exact heap_alloc_new w4 _)
      obtain ⟨z0, z1, z2, z3⟩ := HOZ.out.cells
      have HWZ := Lib.hid hwz
      rw [hwz] at z0 z1 z2 z3
      simp only at z0 z1 z2 z3
      clear hwz hbz
      go_wp2_with fail
      rw [← HWZ.out]
      refine (HFM.out _).mono ?_
      rintro e w6 ⟨rfl, hb6⟩
      have HD6 := Lib.hid (HDZ.out.on hb6)
      have HB6 := Lib.hid (HBZ.out.trans (hb6.mono HBZ.out.size))
      obtain ⟨y0, y1, y2, y3⟩ := (HOZ.out.on hb6).cells
      obtain ⟨f0, f1, f2, f3⟩ := HD6.out.free
      obtain ⟨p0, p1, p2, p3⟩ := HD6.out.cells
      simp only at y0 y1 y2 y3
      clear hb6 z0 z1 z2 z3 HWZ
      go_wp2
      (try simp only [Exit.inBlock, Exit.then])
      refine bodyPost_ret (results_rowO2 rfl _ _ w.heap.size 26 #[.int .u64 (a1 : Int), .string ⟨b1.toArray⟩, .int .i64 zz, .string ⟨d1.toArray⟩] (0, 0) _ rfl (HD6.out.put ⟨a1, ⟨b1, zz, d1⟩⟩) Tryd.underlying26 rfl Tryd.opSize) rfl ?_
      rw [HX.out]
      exact ⟨rfl, belowO HB6.out (Nat.le_refl _) _ _ _ _⟩
  · have hp1 : ((d2 : Int) == (n : Int)) = false := by simp; omega
    have HX := Lib.hid (show M.decOp l = (M.zO, 3) by unfold M.decOp; rw [HE.out]; have := HLN.out; have := HD2.out; have e : ¬ l.length ≤ d2 := (by omega); simp [e])
    clear HE
    go_enter Tryd.func10, Tryd.ntmps10
    go_wp2_with fail
    rw [← hwa]
    clear hwa
    refine (HC1.out _ HB0.out).mono ?_
    rintro e w1 ⟨rfl, hb1⟩
    have HD1 := Lib.hid (HD0.out.on hb1)
    have HB1 := Lib.hid (HB0.out.trans (hb1.mono HB0.out.size))
    clear hb1
    go_wp2_with fail
    refine (HC2.out _ HB1.out).mono ?_
    rintro e w2 ⟨rfl, hb2⟩
    have HD2 := Lib.hid (HD1.out.on hb2)
    have HB2 := Lib.hid (HB1.out.trans (hb2.mono HB1.out.size))
    clear hb2
    go_wp2_with fail
    refine (HC3.out _ HB2.out).mono ?_
    rintro e w3 ⟨rfl, hb3⟩
    have HD3 := Lib.hid (HD2.out.on hb3)
    have HB3 := Lib.hid (HB2.out.trans (hb3.mono HB2.out.size))
    clear hb3
    go_wp2_with fail
    refine (HC4.out _ HB3.out).mono ?_
    rintro e w4 ⟨rfl, hb4⟩
    have HD4 := Lib.hid (HD3.out.on hb4)
    have HB4 := Lib.hid (HB3.out.trans (hb4.mono HB3.out.size))
    clear hb4
    go_wp2_with fail
    refine (HZ.out _).mono ?_
    rintro e w5 ⟨rfl, hw5⟩
    subst hw5
    obtain ⟨wz, hwz⟩ : ∃ wz, wz = w4.alloc (.cells #[.int .u64 (a1 : Int), .string ⟨b1.toArray⟩, .int .i64 zz, .string ⟨d1.toArray⟩] 26) := ⟨_, rfl⟩
    have hbz : Below w4.heap.size w4 wz := by rw [hwz]; exact (Below.refl _ _).alloc (Nat.le_refl _) _
    have HDZ := Lib.hid (HD4.out.on hbz)
    have HBZ := Lib.hid (HB4.out.trans (hbz.mono HB4.out.size))
    have HOZ := Lib.hid (show OpBl wz w4.heap.size ⟨a1, ⟨b1, zz, d1⟩⟩ by unfold OpBl; rw [hwz]; exact heap_alloc_new w4 _)
    obtain ⟨z0, z1, z2, z3⟩ := HOZ.out.cells
    obtain ⟨f0, f1, f2, f3⟩ := HDZ.out.free
    obtain ⟨p0, p1, p2, p3⟩ := HDZ.out.cells
    rw [hwz] at z0 z1 z2 z3 f0 f1 f2 f3 p0 p1 p2 p3
    simp only at z0 z1 z2 z3
    rw [hwz] at HDZ HBZ
    clear hwz hbz
    go_wp2
    (try simp only [Exit.inBlock, Exit.then])
    refine bodyPost_ret (results_rowO2 rfl _ _ w.heap.size 26 #[.int .u64 0, .string ⟨#[]⟩, .int .i64 0, .string ⟨#[]⟩] (0, 0) _ rfl (HDZ.out.put M.zO) Tryd.underlying26 rfl Tryd.opSize) rfl ?_
    rw [HX.out]
    exact ⟨rfl, belowO HBZ.out (Nat.le_refl _) _ _ _ _⟩
end Go.Proofs.YtjdkpcibdjhdoaaDoor

namespace Go.Proofs.YtjdkpcibdjhdoaaDoor.M
theorem decOp_opB (o : O) (ht : o.term < 18446744073709551616) (h1 : -9223372036854775808 ≤ o.doc.time) (h2 : o.doc.time ≤ 9223372036854775807) (hl : o.doc.id.length + o.doc.text.length ≤ 1048576) :
    decOp (opB o) = if formB o.doc.id o.doc.text = true then (o, 0) else (zO, 3) := by
  obtain ⟨t, id, tm, tx⟩ := o
  simp only at ht h1 h2 hl ⊢
  obtain ⟨hz0, hz1⟩ := zig_nat h1 h2
  obtain ⟨z, hz⟩ : ∃ z : Nat, zig tm = (z : Int) := ⟨(zig tm).toNat, by omega⟩
  have hzz : zag (z : Int) = tm := by rw [← hz, zag_zig]
  have hzl : z < 2 ^ 64 := by omega
  have hb : opB ⟨t, ⟨id, tm, tx⟩⟩ = uv t ++ (text id ++ (uv z ++ text tx)) := by simp [opB, hz]
  obtain ⟨B, hB⟩ : ∃ B, opB ⟨t, ⟨id, tm, tx⟩⟩ = B := ⟨_, rfl⟩
  rw [hB] at hb ⊢
  have r1 : rdAt B 0 = (t, (uv t).length, 0) := by
    have := rdAt_uv [] (text id ++ (uv z ++ text tx)) t (by omega)
    rw [hb]; simpa using this
  have r2 : rdText B ((uv t).length : Int) 32 = if (32 : Int) < (id.length : Int) then ([], 0, 2) else (id, (uv t).length + (text id).length, 0) := by
    rw [hb]; exact rdText_text (uv t) id _ 32 (by omega)
  have r3 : rdAt B (((uv t).length + (text id).length : Nat) : Int) = (z, (uv t).length + (text id).length + (uv z).length, 0) := by
    have := rdAt_uv (uv t ++ text id) (text tx) z hzl
    rw [hb]; simpa using this
  have r4 : rdText B (((uv t).length + (text id).length + (uv z).length : Nat) : Int) 512 = if (512 : Int) < (tx.length : Int) then ([], 0, 2) else (tx, (uv t).length + (text id).length + (uv z).length + (text tx).length, 0) := by
    have := rdText_text (uv t ++ text id ++ uv z) tx [] 512 (by omega)
    rw [hb]; simpa [Nat.add_assoc] using this
  have hlen : B.length = (uv t).length + (text id).length + (uv z).length + (text tx).length := by rw [hb]; simp; omega
  unfold decOp rdOp
  rw [r1]
  simp only
  rw [r2]
  by_cases c1 : (32 : Int) < (id.length : Int)
  · rw [if_pos c1]
    have : formB id tx = false := by
      unfold formB
      rw [show decide (id.length ≤ 32) = false from decide_eq_false (by omega)]; simp
    simp [this]
  rw [if_neg c1]
  simp only
  rw [r3]
  simp only
  rw [r4]
  by_cases c2 : (512 : Int) < (tx.length : Int)
  · rw [if_pos c2]
    have : formB id tx = false := by
      unfold formB
      rw [show decide (tx.length ≤ 512) = false from decide_eq_false (by omega)]; simp
    simp [this]
  rw [if_neg c2]
  simp only [hzz]
  cases hf : formB id tx <;> simp [hlen]
end Go.Proofs.YtjdkpcibdjhdoaaDoor.M

namespace Go.Proofs.YtjdkpcibdjhdoaaDoor
open Go.RowKit Mem
set_option linter.unusedVariables false
set_option maxRecDepth 100000

set_option maxHeartbeats 2000000 in
theorem copyCodes_any (o : M.O) (A : Option Addr) (n c : Nat) (l : List UInt8) (w : World) (h : OpArg o) (hl : o.doc.id.length + o.doc.text.length ≤ 1048576) (hr : Rd w w.heap.size A n c l) (hc : c ≤ 1048576) :
    Calls Tryd.prog 3 #[oval o, .slice A n c] w (Yes w) := by
  have hn : n ≤ 1048576 := Nat.le_trans hr.cap hc
  have hdec := M.decOp_opB o h.1 h.2.1 h.2.2 hl
  have HRE := Lib.hid (fun W => ref_encode_any o W h hl)
  have hlen : (M.opB o).length ≤ 1073741824 := by
    have h1 := M.uv_len o.term; have h2 := M.uv_len (M.zig o.doc.time).toNat; have h3 := M.text_len o.doc.id; have h4 := M.text_len o.doc.text
    unfold M.opB
    simp only [List.length_append]
    omega
  have HDE := Lib.hid (fun (W : World) (A : Option Addr) (c : Nat) (hr : Rd W W.heap.size A (M.opB o).length c (M.opB o)) => ref_decode_any A _ c W.heap.size (M.opB o) W hr (Nat.le_refl _) hlen)
  have HDD := Lib.hid (fun (W : World) (A : Option Addr) (c : Nat) (hr : Rd W W.heap.size A (M.opB o).length c (M.opB o)) => decode_any A _ c W.heap.size (M.opB o) W hr (Nat.le_refl _) hlen)
  have HDP := Lib.hid (fun (W : World) (hb : Below w.heap.size w W) => decode_any A n c w.heap.size l W (hr.below hb) hb.size (by omega))
  have HRP := Lib.hid (fun (W : World) (hb : Below w.heap.size w W) => ref_decode_any A n c w.heap.size l W (hr.below hb) hb.size (by omega))
  have HEO := Lib.hid (fun (W : World) (hf : M.formB o.doc.id o.doc.text = true) => encode_ok o W h hf)
  have HEN := Lib.hid (fun (W : World) (hf : M.formB o.doc.id o.doc.text = false) => encode_no o W hf)
  have HST := Lib.hid (fun (W : World) (B : Nat) (A : Option Addr) (n k : Nat) (r : List UInt8) (hr : Rd W B A n k r) => run_str (P := Tryd.prog) W B 27 9 5 Tryd.underlying27 Tryd.underlying5 Tryd.underlying9 A n k r hr)
  obtain ⟨dp, hdp⟩ : ∃ dp, M.decOp l = dp := ⟨_, rfl⟩
  rw [hdp] at HDP HRP
  rw [hdec] at HDE HDD
  generalize M.opB o = lo at *
  have HOO := Lib.hid (show (oval M.zO) = .agg #[.int .u64 0, .string ⟨#[]⟩, .int .i64 0, .string ⟨#[]⟩] from rfl)
  obtain ⟨⟨pt, pid, ptm, ptx⟩, pk⟩ := dp
  obtain ⟨ot, oid, otm, otx⟩ := o
  simp only at HEO HEN HDE HDD
  generalize M.formB oid otx = bo at *
  unfold oval at HRE HDE HDD HDP HRP HEO HEN ⊢
  simp only at HRE HDP HRP HEO HEN ⊢
  obtain ⟨P1, hP1⟩ : ∃ P1 : ByteArray, P1 = ⟨pid.toArray⟩ := ⟨_, rfl⟩
  obtain ⟨P2, hP2⟩ : ∃ P2 : ByteArray, P2 = ⟨ptx.toArray⟩ := ⟨_, rfl⟩
  rw [← hP1, ← hP2] at HDP HRP
  clear hP1 hP2
  have ep1 : (P1.toList == P1.toList) = true := by simp
  have ep2 : (P2.toList == P2.toList) = true := by simp
  clear h hl hdec hlen hdp hr hn hc
  obtain ⟨Z0, hZ0⟩ : ∃ Z0 : ByteArray, Z0 = ⟨#[]⟩ := ⟨_, rfl⟩
  cases bo
  · simp only [Bool.false_eq_true, if_false] at HDE HDD
    have HDE := Lib.hid (show ∀ (W : World) (A : Option Addr) (c : Nat), Rd W W.heap.size A lo.length c lo → Calls Tryd.prog 10 #[.slice A lo.length c] W (fun e w' => e = .returned (.tuple #[.agg #[.int .u64 (0 : Int), .string Z0, .int .i64 0, .string Z0], .int .i64 3]) ∧ Below W.heap.size W w') by rw [hZ0]; exact HDE.out)
    have HENC := Lib.hid (fun W => HEN.out W rfl)
    obtain ⟨S1, hS1⟩ : ∃ S1 : ByteArray, S1 = ⟨oid.toArray⟩ := ⟨_, rfl⟩
    obtain ⟨S2, hS2⟩ : ∃ S2 : ByteArray, S2 = ⟨otx.toArray⟩ := ⟨_, rfl⟩
    rw [← hS1, ← hS2] at HRE HENC ⊢
    clear hS1 hS2 hZ0 HEO HEN HOO
    have es1 : (S1.toList == S1.toList) = true := by simp
    have es2 : (S2.toList == S2.toList) = true := by simp
    have HBw := Lib.hid (Below.refl w.heap.size w)
    obtain ⟨wa, hal⟩ : ∃ x, x = w.alloc (.cells #[.int .u64 (ot : Int), .string S1, .int .i64 otm, .string S2] 26) := ⟨_, rfl⟩
    have HBwa := Lib.hid (show Below w.heap.size w wa by rw [hal]; exact HBw.out.alloc HBw.out.size _)
    have HNwa := Lib.hid (show wa.heap[w.heap.size]? = some (.cells #[.int .u64 (ot : Int), .string S1, .int .i64 otm, .string S2] 26 (0, 0)) by rw [hal]; exact heap_alloc_new w _)
    have HLwa := Lib.hid (show Below w.heap.size w wa by rw [hal]; exact (Below.refl _ _).alloc (Nat.le_refl _) _)
    have HWwa := Lib.hid hal.symm
    clear hal
    go_enter Tryd.func3, Tryd.ntmps3
    go_wp2_with fail
    rw [HWwa.out]
    refine (awake16_any wa).mono ?_
    rintro e w1 ⟨rfl, hb1⟩
    have HB1 := Lib.hid (HBwa.out.trans (hb1.mono HBwa.out.size))
    have HG1 := Lib.hid ((hb1.block _ (heapLt HNwa.out)).trans HNwa.out)
    clear hb1 HWwa HLwa
    have x0 : w1.cell? ⟨w.heap.size, 0, none⟩ = some (.int .u64 (ot : Int)) := cellAt (w := w1) 0 HG1.out
    have x1 : w1.cell? ⟨w.heap.size, 1, none⟩ = some (.string S1) := cellAt (w := w1) 1 HG1.out
    have x2 : w1.cell? ⟨w.heap.size, 2, none⟩ = some (.int .i64 otm) := cellAt (w := w1) 2 HG1.out
    have x3 : w1.cell? ⟨w.heap.size, 3, none⟩ = some (.string S2) := cellAt (w := w1) 3 HG1.out
    go_wp2_with fail
    refine (HENC.out w1).mono ?_
    rintro e w2 ⟨rfl, hb2⟩
    have HB2 := Lib.hid (HB1.out.trans (hb2.mono HB1.out.size))
    have HG2 := Lib.hid ((hb2.block _ (heapLt HG1.out)).trans HG1.out)
    clear hb2 x0 x1 x2 x3
    have x0 : w2.cell? ⟨w.heap.size, 0, none⟩ = some (.int .u64 (ot : Int)) := cellAt (w := w2) 0 HG2.out
    have x1 : w2.cell? ⟨w.heap.size, 1, none⟩ = some (.string S1) := cellAt (w := w2) 1 HG2.out
    have x2 : w2.cell? ⟨w.heap.size, 2, none⟩ = some (.int .i64 otm) := cellAt (w := w2) 2 HG2.out
    have x3 : w2.cell? ⟨w.heap.size, 3, none⟩ = some (.string S2) := cellAt (w := w2) 3 HG2.out
    go_wp2_with fail
    refine (HRE.out w2).mono ?_
    rintro e w10 ⟨v10, rfl, ho10, hb10⟩
    obtain ⟨A10, c10, rfl, hr10⟩ := ho10.open_
    have HB10 := Lib.hid (HB2.out.trans (hb10.mono HB2.out.size))
    clear hb10 ho10 x0 x1 x2 x3
    go_wp2_with fail
    refine (HDE.out w10 A10 c10 hr10).mono ?_
    rintro e w11 ⟨rfl, hb11⟩
    have HB11 := Lib.hid (HB10.out.trans (hb11.mono HB10.out.size))
    clear hb11 hr10
    obtain ⟨wd, hal⟩ : ∃ x, x = w11.alloc (.cells #[.int .u64 (0 : Int), .string Z0, .int .i64 0, .string Z0] 26) := ⟨_, rfl⟩
    have HBwd := Lib.hid (show Below w.heap.size w wd by rw [hal]; exact HB11.out.alloc HB11.out.size _)
    have HNwd := Lib.hid (show wd.heap[w11.heap.size]? = some (.cells #[.int .u64 (0 : Int), .string Z0, .int .i64 0, .string Z0] 26 (0, 0)) by rw [hal]; exact heap_alloc_new w11 _)
    have HLwd := Lib.hid (show Below w11.heap.size w11 wd by rw [hal]; exact (Below.refl _ _).alloc (Nat.le_refl _) _)
    have HWwd := Lib.hid hal.symm
    clear hal
    go_upto_region 13 with (fail)
    rw [HWwd.out]
    clear HWwd HNwd HLwd
    go_wp2_with fail
    refine (HDP.out wd HBwd.out).mono ?_
    rintro e w12 ⟨rfl, hb12⟩
    have HB12 := Lib.hid (HBwd.out.trans (hb12.mono HBwd.out.size))
    clear hb12
    obtain ⟨we, hal⟩ : ∃ x, x = w12.alloc (.cells #[.int .u64 (pt : Int), .string P1, .int .i64 ptm, .string P2] 26) := ⟨_, rfl⟩
    have HBwe := Lib.hid (show Below w.heap.size w we by rw [hal]; exact HB12.out.alloc HB12.out.size _)
    have HNwe := Lib.hid (show we.heap[w12.heap.size]? = some (.cells #[.int .u64 (pt : Int), .string P1, .int .i64 ptm, .string P2] 26 (0, 0)) by rw [hal]; exact heap_alloc_new w12 _)
    have HLwe := Lib.hid (show Below w12.heap.size w12 we by rw [hal]; exact (Below.refl _ _).alloc (Nat.le_refl _) _)
    have HWwe := Lib.hid hal.symm
    clear hal
    go_upto_region 14 with (fail)
    rw [HWwe.out]
    clear HWwe HLwe
    go_wp2_with fail
    refine (HRP.out we HBwe.out).mono ?_
    rintro e w13 ⟨rfl, hb13⟩
    have HB13 := Lib.hid (HBwe.out.trans (hb13.mono HBwe.out.size))
    have hne := (hb13.block _ (heapLt HNwe.out)).trans HNwe.out
    clear hb13
    obtain ⟨wf, hal⟩ : ∃ x, x = w13.alloc (.cells #[.int .u64 (pt : Int), .string P1, .int .i64 ptm, .string P2] 26) := ⟨_, rfl⟩
    have HBwf := Lib.hid (show Below w.heap.size w wf by rw [hal]; exact HB13.out.alloc HB13.out.size _)
    have HNwf := Lib.hid (show wf.heap[w13.heap.size]? = some (.cells #[.int .u64 (pt : Int), .string P1, .int .i64 ptm, .string P2] 26 (0, 0)) by rw [hal]; exact heap_alloc_new w13 _)
    have HLwf := Lib.hid (show Below w13.heap.size w13 wf by rw [hal]; exact (Below.refl _ _).alloc (Nat.le_refl _) _)
    have HWwf := Lib.hid hal.symm
    clear hal
    go_upto_region 15 with (fail)
    rw [HWwf.out]
    have hnf := (HLwf.out.block _ (heapLt hne)).trans hne
    have hng := HNwf.out
    have y0 : wf.cell? ⟨w12.heap.size, 0, none⟩ = some (.int .u64 (pt : Int)) := cellAt (w := wf) 0 hnf
    have y1 : wf.cell? ⟨w12.heap.size, 1, none⟩ = some (.string P1) := cellAt (w := wf) 1 hnf
    have y2 : wf.cell? ⟨w12.heap.size, 2, none⟩ = some (.int .i64 ptm) := cellAt (w := wf) 2 hnf
    have y3 : wf.cell? ⟨w12.heap.size, 3, none⟩ = some (.string P2) := cellAt (w := wf) 3 hnf
    have z0 : wf.cell? ⟨w13.heap.size, 0, none⟩ = some (.int .u64 (pt : Int)) := cellAt (w := wf) 0 hng
    have z1 : wf.cell? ⟨w13.heap.size, 1, none⟩ = some (.string P1) := cellAt (w := wf) 1 hng
    have z2 : wf.cell? ⟨w13.heap.size, 2, none⟩ = some (.int .i64 ptm) := cellAt (w := wf) 2 hng
    have z3 : wf.cell? ⟨w13.heap.size, 3, none⟩ = some (.string P2) := cellAt (w := wf) 3 hng
    clear hne hnf hng HWwf HLwf
    go_wp2
    go_ret
    exact ⟨rfl, HBwf.out⟩
  · simp only [if_true] at HDE HDD
    have HENC := Lib.hid (fun W => HEO.out W rfl)
    obtain ⟨S1, hS1⟩ : ∃ S1 : ByteArray, S1 = ⟨oid.toArray⟩ := ⟨_, rfl⟩
    obtain ⟨S2, hS2⟩ : ∃ S2 : ByteArray, S2 = ⟨otx.toArray⟩ := ⟨_, rfl⟩
    rw [← hS1, ← hS2] at HRE HENC ⊢
    rw [← hS1, ← hS2] at HDE HDD
    clear hS1 hS2 hZ0 HEO HEN HOO
    have es1 : (S1.toList == S1.toList) = true := by simp
    have es2 : (S2.toList == S2.toList) = true := by simp
    have HBw := Lib.hid (Below.refl w.heap.size w)
    obtain ⟨wa, hal⟩ : ∃ x, x = w.alloc (.cells #[.int .u64 (ot : Int), .string S1, .int .i64 otm, .string S2] 26) := ⟨_, rfl⟩
    have HBwa := Lib.hid (show Below w.heap.size w wa by rw [hal]; exact HBw.out.alloc HBw.out.size _)
    have HNwa := Lib.hid (show wa.heap[w.heap.size]? = some (.cells #[.int .u64 (ot : Int), .string S1, .int .i64 otm, .string S2] 26 (0, 0)) by rw [hal]; exact heap_alloc_new w _)
    have HLwa := Lib.hid (show Below w.heap.size w wa by rw [hal]; exact (Below.refl _ _).alloc (Nat.le_refl _) _)
    have HWwa := Lib.hid hal.symm
    clear hal
    go_enter Tryd.func3, Tryd.ntmps3
    go_wp2_with fail
    rw [HWwa.out]
    refine (awake16_any wa).mono ?_
    rintro e w1 ⟨rfl, hb1⟩
    have HB1 := Lib.hid (HBwa.out.trans (hb1.mono HBwa.out.size))
    have HG1 := Lib.hid ((hb1.block _ (heapLt HNwa.out)).trans HNwa.out)
    clear hb1 HWwa HLwa
    have x0 : w1.cell? ⟨w.heap.size, 0, none⟩ = some (.int .u64 (ot : Int)) := cellAt (w := w1) 0 HG1.out
    have x1 : w1.cell? ⟨w.heap.size, 1, none⟩ = some (.string S1) := cellAt (w := w1) 1 HG1.out
    have x2 : w1.cell? ⟨w.heap.size, 2, none⟩ = some (.int .i64 otm) := cellAt (w := w1) 2 HG1.out
    have x3 : w1.cell? ⟨w.heap.size, 3, none⟩ = some (.string S2) := cellAt (w := w1) 3 HG1.out
    go_wp2_with fail
    refine (HENC.out w1).mono ?_
    rintro e w2 ⟨v2, rfl, ho2, hb2⟩
    obtain ⟨A2, c2, rfl, hr2⟩ := ho2.open_
    have HB2 := Lib.hid (HB1.out.trans (hb2.mono HB1.out.size))
    have HG2 := Lib.hid ((hb2.block _ (heapLt HG1.out)).trans HG1.out)
    have HR2 := Lib.hid hr2
    clear hb2 ho2 hr2 x0 x1 x2 x3
    go_wp2_with fail
    refine (HDD.out w2 A2 c2 HR2.out).mono ?_
    rintro e w3 ⟨rfl, hb3⟩
    have HB3 := Lib.hid (HB2.out.trans (hb3.mono HB2.out.size))
    have HG3 := Lib.hid ((hb3.block _ (heapLt HG2.out)).trans HG2.out)
    have HB23 := Lib.hid hb3
    clear hb3
    obtain ⟨wb, hal⟩ : ∃ x, x = w3.alloc (.cells #[.int .u64 (ot : Int), .string S1, .int .i64 otm, .string S2] 26) := ⟨_, rfl⟩
    have HBwb := Lib.hid (show Below w.heap.size w wb by rw [hal]; exact HB3.out.alloc HB3.out.size _)
    have HNwb := Lib.hid (show wb.heap[w3.heap.size]? = some (.cells #[.int .u64 (ot : Int), .string S1, .int .i64 otm, .string S2] 26 (0, 0)) by rw [hal]; exact heap_alloc_new w3 _)
    have HLwb := Lib.hid (show Below w3.heap.size w3 wb by rw [hal]; exact (Below.refl _ _).alloc (Nat.le_refl _) _)
    have HWwb := Lib.hid hal.symm
    clear hal
    have HGB := Lib.hid ((HLwb.out.block _ (heapLt HG3.out)).trans HG3.out)
    have HBX := Lib.hid (show Below w2.heap.size w2 wb from HB23.out.trans (HLwb.out.mono HB23.out.size))
    go_upto_region 6 with (fail)
    rw [HWwb.out]
    have hcv : ∀ W : World, Below wb.heap.size wb W → (convert 27 9 (.slice A2 lo.length c2)).run Tryd.prog W = .ok (.string ⟨lo.toArray⟩) W := fun W hW => HST.out W _ _ _ _ _ (HR2.out.below (HBX.out.trans (hW.mono HBX.out.size)))
    obtain ⟨T2, hT2⟩ : ∃ T2 : ByteArray, T2 = ⟨lo.toArray⟩ := ⟨_, rfl⟩
    rw [← hT2] at hcv
    have HCV := Lib.hid hcv
    have HT2 := Lib.hid hT2
    clear hT2 hcv
    have et2 : (T2.toList == T2.toList) = true := by simp
    have hbb := HNwb.out
    have hgb := HGB.out
    have x0 : wb.cell? ⟨w.heap.size, 0, none⟩ = some (.int .u64 (ot : Int)) := cellAt (w := wb) 0 hgb
    have x1 : wb.cell? ⟨w.heap.size, 1, none⟩ = some (.string S1) := cellAt (w := wb) 1 hgb
    have x2 : wb.cell? ⟨w.heap.size, 2, none⟩ = some (.int .i64 otm) := cellAt (w := wb) 2 hgb
    have x3 : wb.cell? ⟨w.heap.size, 3, none⟩ = some (.string S2) := cellAt (w := wb) 3 hgb
    have u0 : wb.cell? ⟨w3.heap.size, 0, none⟩ = some (.int .u64 (ot : Int)) := cellAt (w := wb) 0 hbb
    have u1 : wb.cell? ⟨w3.heap.size, 1, none⟩ = some (.string S1) := cellAt (w := wb) 1 hbb
    have u2 : wb.cell? ⟨w3.heap.size, 2, none⟩ = some (.int .i64 otm) := cellAt (w := wb) 2 hbb
    have u3 : wb.cell? ⟨w3.heap.size, 3, none⟩ = some (.string S2) := cellAt (w := wb) 3 hbb
    have HV := Lib.hid (show (convert 27 9 (.slice A2 lo.length c2)).run Tryd.prog wb.drew = .ok (.string T2) wb.drew ∧ wb.drew.cell? ⟨w.heap.size, 0, none⟩ = some (.int .u64 (ot : Int)) ∧ wb.drew.cell? ⟨w.heap.size, 1, none⟩ = some (.string S1) ∧ wb.drew.cell? ⟨w.heap.size, 2, none⟩ = some (.int .i64 otm) ∧ wb.drew.cell? ⟨w.heap.size, 3, none⟩ = some (.string S2) ∧ wb.drew.cell? ⟨w3.heap.size, 0, none⟩ = some (.int .u64 (ot : Int)) ∧ wb.drew.cell? ⟨w3.heap.size, 1, none⟩ = some (.string S1) ∧ wb.drew.cell? ⟨w3.heap.size, 2, none⟩ = some (.int .i64 otm) ∧ wb.drew.cell? ⟨w3.heap.size, 3, none⟩ = some (.string S2) ∧ Below w.heap.size w wb.drew from ⟨HCV.out _ ⟨rfl, rfl, rfl, Nat.le_refl _, fun _ _ => rfl⟩, x0, x1, x2, x3, u0, u1, u2, u3, HBwb.out.trans ⟨rfl, rfl, rfl, Nat.le_refl _, fun _ _ => rfl⟩⟩)
    clear hbb hgb
    go_wp2_with fail
    go_region_held (fun W => (convert 27 9 (.slice A2 lo.length c2)).run Tryd.prog W = .ok (.string T2) W ∧ W.cell? ⟨w.heap.size, 0, none⟩ = some (.int .u64 (ot : Int)) ∧ W.cell? ⟨w.heap.size, 1, none⟩ = some (.string S1) ∧ W.cell? ⟨w.heap.size, 2, none⟩ = some (.int .i64 otm) ∧ W.cell? ⟨w.heap.size, 3, none⟩ = some (.string S2) ∧ W.cell? ⟨w3.heap.size, 0, none⟩ = some (.int .u64 (ot : Int)) ∧ W.cell? ⟨w3.heap.size, 1, none⟩ = some (.string S1) ∧ W.cell? ⟨w3.heap.size, 2, none⟩ = some (.int .i64 otm) ∧ W.cell? ⟨w3.heap.size, 3, none⟩ = some (.string S2) ∧ Below w.heap.size w W)
      (first | exact hHeld | exact HV.out | exact hV7)
      (first
        | (go_at_call 9; refine (HRE.out _).mono ?_; rintro e w7 ⟨v7, rfl, hO7, hb7⟩; obtain ⟨A7, c7, hv7, hr7⟩ := hO7.open_; subst hv7; have hcv7 := HST.out w7 _ A7 _ c7 _ hr7; rw [← HT2.out] at hcv7; have hb7w := below_undrew hb7; have hV7 : (convert 27 9 (.slice A2 lo.length c2)).run Tryd.prog w7 = .ok (.string T2) w7 ∧ w7.cell? ⟨w.heap.size, 0, none⟩ = some (.int .u64 (ot : Int)) ∧ w7.cell? ⟨w.heap.size, 1, none⟩ = some (.string S1) ∧ w7.cell? ⟨w.heap.size, 2, none⟩ = some (.int .i64 otm) ∧ w7.cell? ⟨w.heap.size, 3, none⟩ = some (.string S2) ∧ w7.cell? ⟨w3.heap.size, 0, none⟩ = some (.int .u64 (ot : Int)) ∧ w7.cell? ⟨w3.heap.size, 1, none⟩ = some (.string S1) ∧ w7.cell? ⟨w3.heap.size, 2, none⟩ = some (.int .i64 otm) ∧ w7.cell? ⟨w3.heap.size, 3, none⟩ = some (.string S2) ∧ Below w.heap.size w w7 := ⟨HCV.out _ hb7w, cellAt (w := w7) 0 ((hb7w.block _ (heapLt HGB.out)).trans HGB.out), cellAt (w := w7) 1 ((hb7w.block _ (heapLt HGB.out)).trans HGB.out), cellAt (w := w7) 2 ((hb7w.block _ (heapLt HGB.out)).trans HGB.out), cellAt (w := w7) 3 ((hb7w.block _ (heapLt HGB.out)).trans HGB.out), cellAt (w := w7) 0 ((hb7w.block _ (heapLt HNwb.out)).trans HNwb.out), cellAt (w := w7) 1 ((hb7w.block _ (heapLt HNwb.out)).trans HNwb.out), cellAt (w := w7) 2 ((hb7w.block _ (heapLt HNwb.out)).trans HNwb.out), cellAt (w := w7) 3 ((hb7w.block _ (heapLt HNwb.out)).trans HNwb.out), HBwb.out.trans (hb7w.mono HBwb.out.size)⟩; have hG7 := (hb7w.block _ (heapLt HGB.out)).trans HGB.out)
        | fail)
    all_goals
      have HB7 := Lib.hid hV7.2.2.2.2.2.2.2.2.2
      have HG7 := Lib.hid hG7
      clear hV7 hG7 hb7w hcv7 hO7 hr7 x0 x1 x2 x3 u0 u1 u2 u3
      have x0 : w7.cell? ⟨w.heap.size, 0, none⟩ = some (.int .u64 (ot : Int)) := cellAt (w := w7) 0 HG7.out
      have x1 : w7.cell? ⟨w.heap.size, 1, none⟩ = some (.string S1) := cellAt (w := w7) 1 HG7.out
      have x2 : w7.cell? ⟨w.heap.size, 2, none⟩ = some (.int .i64 otm) := cellAt (w := w7) 2 HG7.out
      have x3 : w7.cell? ⟨w.heap.size, 3, none⟩ = some (.string S2) := cellAt (w := w7) 3 HG7.out
      go_wp2_with fail
      refine (HRE.out w7).mono ?_
      rintro e w10 ⟨v10, rfl, ho10, hb10⟩
      obtain ⟨A10, c10, rfl, hr10⟩ := ho10.open_
      have HB10 := Lib.hid (HB7.out.trans (hb10.mono HB7.out.size))
      clear hb10 ho10 x0 x1 x2 x3
      go_wp2_with fail
      refine (HDE.out w10 A10 c10 hr10).mono ?_
      rintro e w11 ⟨rfl, hb11⟩
      have HB11 := Lib.hid (HB10.out.trans (hb11.mono HB10.out.size))
      clear hb11 hr10
      obtain ⟨wd, hal⟩ : ∃ x, x = w11.alloc (.cells #[.int .u64 (ot : Int), .string S1, .int .i64 otm, .string S2] 26) := ⟨_, rfl⟩
      have HBwd := Lib.hid (show Below w.heap.size w wd by rw [hal]; exact HB11.out.alloc HB11.out.size _)
      have HNwd := Lib.hid (show wd.heap[w11.heap.size]? = some (.cells #[.int .u64 (ot : Int), .string S1, .int .i64 otm, .string S2] 26 (0, 0)) by rw [hal]; exact heap_alloc_new w11 _)
      have HLwd := Lib.hid (show Below w11.heap.size w11 wd by rw [hal]; exact (Below.refl _ _).alloc (Nat.le_refl _) _)
      have HWwd := Lib.hid hal.symm
      clear hal
      go_upto_region 13 with (fail)
      rw [HWwd.out]
      clear HWwd HNwd HLwd
      go_wp2_with fail
      refine (HDP.out wd HBwd.out).mono ?_
      rintro e w12 ⟨rfl, hb12⟩
      have HB12 := Lib.hid (HBwd.out.trans (hb12.mono HBwd.out.size))
      clear hb12
      obtain ⟨we, hal⟩ : ∃ x, x = w12.alloc (.cells #[.int .u64 (pt : Int), .string P1, .int .i64 ptm, .string P2] 26) := ⟨_, rfl⟩
      have HBwe := Lib.hid (show Below w.heap.size w we by rw [hal]; exact HB12.out.alloc HB12.out.size _)
      have HNwe := Lib.hid (show we.heap[w12.heap.size]? = some (.cells #[.int .u64 (pt : Int), .string P1, .int .i64 ptm, .string P2] 26 (0, 0)) by rw [hal]; exact heap_alloc_new w12 _)
      have HLwe := Lib.hid (show Below w12.heap.size w12 we by rw [hal]; exact (Below.refl _ _).alloc (Nat.le_refl _) _)
      have HWwe := Lib.hid hal.symm
      clear hal
      go_upto_region 14 with (fail)
      rw [HWwe.out]
      clear HWwe HLwe
      go_wp2_with fail
      refine (HRP.out we HBwe.out).mono ?_
      rintro e w13 ⟨rfl, hb13⟩
      have HB13 := Lib.hid (HBwe.out.trans (hb13.mono HBwe.out.size))
      have hne := (hb13.block _ (heapLt HNwe.out)).trans HNwe.out
      clear hb13
      obtain ⟨wf, hal⟩ : ∃ x, x = w13.alloc (.cells #[.int .u64 (pt : Int), .string P1, .int .i64 ptm, .string P2] 26) := ⟨_, rfl⟩
      have HBwf := Lib.hid (show Below w.heap.size w wf by rw [hal]; exact HB13.out.alloc HB13.out.size _)
      have HNwf := Lib.hid (show wf.heap[w13.heap.size]? = some (.cells #[.int .u64 (pt : Int), .string P1, .int .i64 ptm, .string P2] 26 (0, 0)) by rw [hal]; exact heap_alloc_new w13 _)
      have HLwf := Lib.hid (show Below w13.heap.size w13 wf by rw [hal]; exact (Below.refl _ _).alloc (Nat.le_refl _) _)
      have HWwf := Lib.hid hal.symm
      clear hal
      go_upto_region 15 with (fail)
      rw [HWwf.out]
      have hnf := (HLwf.out.block _ (heapLt hne)).trans hne
      have hng := HNwf.out
      have y0 : wf.cell? ⟨w12.heap.size, 0, none⟩ = some (.int .u64 (pt : Int)) := cellAt (w := wf) 0 hnf
      have y1 : wf.cell? ⟨w12.heap.size, 1, none⟩ = some (.string P1) := cellAt (w := wf) 1 hnf
      have y2 : wf.cell? ⟨w12.heap.size, 2, none⟩ = some (.int .i64 ptm) := cellAt (w := wf) 2 hnf
      have y3 : wf.cell? ⟨w12.heap.size, 3, none⟩ = some (.string P2) := cellAt (w := wf) 3 hnf
      have z0 : wf.cell? ⟨w13.heap.size, 0, none⟩ = some (.int .u64 (pt : Int)) := cellAt (w := wf) 0 hng
      have z1 : wf.cell? ⟨w13.heap.size, 1, none⟩ = some (.string P1) := cellAt (w := wf) 1 hng
      have z2 : wf.cell? ⟨w13.heap.size, 2, none⟩ = some (.int .i64 ptm) := cellAt (w := wf) 2 hng
      have z3 : wf.cell? ⟨w13.heap.size, 3, none⟩ = some (.string P2) := cellAt (w := wf) 3 hng
      clear hne hnf hng HWwf HLwf
      go_wp2
      go_ret
      exact ⟨rfl, HBwf.out⟩
end Go.Proofs.YtjdkpcibdjhdoaaDoor
