/-
  What the document's Rename does, by a contract.
-/
import Derived.Test.YtglfbigklnaegaaRefI
namespace Go.Proofs.Ytglfbigklnaegaa
open Go.RowKit Mem FM
set_option linter.unusedVariables false
set_option maxRecDepth 100000
variable {K : Nat → Prop}

theorem del_del (a b : List UInt8) {Y : Type} (fs : List (File Y)) : del a (del b fs) = del b (del a fs) := by
  unfold del
  rw [List.filter_filter, List.filter_filter]
  congr 1
  funext x
  rw [Bool.and_comm]
theorem eq_names (a b : ByteArray) : (a.toList == b.toList) = decide (a.data.toList = b.data.toList) := by
  rw [Lib.toList_data, Lib.toList_data, Bool.eq_iff_iff]
  simp
theorem del_len_le {Y : Type} (n : List UInt8) (fs : List (File Y)) : (del n fs).length ≤ fs.length := List.length_filter_le _ _
/-- a box that is no part of the disk stays through a call of it -/
theorem box_stays {F F' : Nat → Prop} {w w' : World} {B : Nat} (hB : B < w.heap.size) (hn : ¬ F B) (ht : Turned F w w') (hs : Spread F F' w) : (∀ o, w'.cell? ⟨B, o, none⟩ = w.cell? ⟨B, o, none⟩) ∧ B < w'.heap.size ∧ ¬ F' B :=
  ⟨fun o => ht.cell (p := ⟨B, o, none⟩) hB hn, Nat.lt_of_lt_of_le hB ht.size, fun h => (hs B h).elim hn (fun h2 => by omega)⟩

set_option maxHeartbeats 8000000 in
theorem ref_rename_bad (X : Nat) (F : Nat → Prop) (s : St) (nm to : ByteArray) (w : World) (h : RefAt K w F X s) (hs : nm.size ≤ 9223372036854775807) (hs2 : to.size ≤ 9223372036854775807) (hr : nameOk nm = false ∨ nameOk to = false ∨ nm.data.toList = to.data.toList) :
    Calls Try.prog 23 #[.pointer (some ⟨X, 0, none⟩), .string nm, .string to] w (RDid K F X 1 s w) := by
  have HSAMEd := Lib.hid (show ∀ (x : Int), RDid K F X x s w (.returned (.int .i64 x)) w from fun x => ⟨rfl, F, h, Turned.refl _ _, Spread.refl _ _⟩)
  have HN1 := Lib.hid (ref_name_any nm w hs)
  have HN2 := Lib.hid (ref_name_any to w hs2)
  clear h
  cases hok : nameOk nm
  · rw [hok] at HN1
    clear hr hok
    go_enter Try.func23, Try.ntmps23
    go_wp2_with fail
    refine HN1.out.mono ?_
    rintro e w1 ⟨rfl, rfl⟩
    go_wp2
    go_ret
    exact HSAMEd.out 1
  · rw [hok] at HN1
    cases hok2 : nameOk to
    · rw [hok2] at HN2
      clear hr hok hok2
      go_enter Try.func23, Try.ntmps23
      go_wp2_with fail
      refine HN1.out.mono ?_
      rintro e w1 ⟨rfl, rfl⟩
      go_wp2_with fail
      refine HN2.out.mono ?_
      rintro e w2 ⟨rfl, rfl⟩
      go_wp2
      go_ret
      exact HSAMEd.out 1
    · rw [hok2] at HN2
      have hq : (nm.toList == to.toList) = true := by
        rw [eq_names]
        rcases hr with h | h | h
        · rw [hok] at h; cases h
        · rw [hok2] at h; cases h
        · simpa using h
      clear hr hok hok2
      go_enter Try.func23, Try.ntmps23
      go_wp2_with fail
      refine HN1.out.mono ?_
      rintro e w1 ⟨rfl, rfl⟩
      go_wp2_with fail
      refine HN2.out.mono ?_
      rintro e w2 ⟨rfl, rfl⟩
      go_wp2
      go_ret
      exact HSAMEd.out 1

set_option maxHeartbeats 8000000 in
theorem ref_rename_there (X : Nat) (F : Nat → Prop) (s : St) (nm to : ByteArray) (w : World) (h : RefAt K w F X s) (hs : nm.size ≤ 9223372036854775807) (hs2 : to.size ≤ 9223372036854775807) (h1 : nameOk nm = true) (h2 : nameOk to = true) (hne : ¬ nm.data.toList = to.data.toList) (x : Int) (ht : thereE s nm = x) (hx : x = 10 ∨ x = 8) :
    Calls Try.prog 23 #[.pointer (some ⟨X, 0, none⟩), .string nm, .string to] w (RDid K F X x s w) := by
  have HSAMEd := Lib.hid (show ∀ (x : Int), RDid K F X x s w (.returned (.int .i64 x)) w from fun x => ⟨rfl, F, h, Turned.refl _ _, Spread.refl _ _⟩)
  have HN1 := Lib.hid (ref_name_any nm w hs)
  have HN2 := Lib.hid (ref_name_any to w hs2)
  obtain ⟨v, fs, hR⟩ := h
  have HTH := Lib.hid (ref_there_any X F v fs s nm w hR hs)
  rw [h1] at HN1
  rw [h2] at HN2
  rw [ht] at HTH
  have hq : (nm.toList == to.toList) = false := by rw [eq_names]; simpa using hne
  clear hR h1 h2 hne ht
  rcases hx with rfl | rfl
  · go_enter Try.func23, Try.ntmps23
    go_wp2_with fail
    refine HN1.out.mono ?_
    rintro e w1 ⟨rfl, rfl⟩
    go_wp2_with fail
    refine HN2.out.mono ?_
    rintro e w2 ⟨rfl, rfl⟩
    go_wp2_with fail
    refine HTH.out.mono ?_
    rintro e w3 ⟨rfl, rfl⟩
    go_wp2
    go_ret
    exact HSAMEd.out 10
  · go_enter Try.func23, Try.ntmps23
    go_wp2_with fail
    refine HN1.out.mono ?_
    rintro e w1 ⟨rfl, rfl⟩
    go_wp2_with fail
    refine HN2.out.mono ?_
    rintro e w2 ⟨rfl, rfl⟩
    go_wp2_with fail
    refine HTH.out.mono ?_
    rintro e w3 ⟨rfl, rfl⟩
    go_wp2
    go_ret
    exact HSAMEd.out 8

set_option maxHeartbeats 8000000 in
theorem ref_rename_short (X : Nat) (F : Nat → Prop) (v : Value) (fs : List (File Sl)) (s : St) (nm to : ByteArray) (w : World) (hR : RefF K w F X v fs s) (hs : nm.size ≤ 9223372036854775807) (hs2 : to.size ≤ 9223372036854775807) (h1 : nameOk nm = true) (h2 : nameOk to = true) (hne : ¬ nm.data.toList = to.data.toList) (ht : thereE s nm = 0) (i : Nat) (hi : i < fs.length) (hpl : placeOf nm.data.toList fs = (i : Int)) (hsh : fs[i].sure < fs[i].data.length) :
    Calls Try.prog 23 #[.pointer (some ⟨X, 0, none⟩), .string nm, .string to] w (RDid K F X 12 s w) := by
  have HN1 := Lib.hid (ref_name_any nm w hs)
  have HN2 := Lib.hid (ref_name_any to w hs2)
  have HTH := Lib.hid (ref_there_any X F v fs s nm w hR hs)
  have HR := Lib.hid hR
  rw [h1] at HN1
  rw [h2] at HN2
  rw [ht] at HTH
  have HNE := Lib.hid hne
  have hq : (nm.toList == to.toList) = false := by rw [eq_names]; simpa using hne
  have HAT := Lib.hid (fun (W : World) (hb : Below w.heap.size w W) => ref_at_any X F v fs s nm W (hR.below hb))
  simp only [hpl] at HAT
  obtain ⟨A0, c0', rfl, hcc, hccm⟩ := hR.form
  obtain ⟨g, rfl, hg, _, _, q0, q1, q2⟩ := hR.at_ hi
  have c0 := hR.1.c0
  have HX0 := Lib.hid (hR.2.2.2.2.2.2.2.2 X hR.2.1)
  have hXl := hR.2.2.2.2.2.2.2.2 X hR.2.1
  have hrdf := (hR.2.2.2.2.2.2.1 fs[i] (List.getElem_mem hi))
  have HRDF := Lib.hid hrdf
  have hnn : fs.length < 1099511627776 := by have := hR.2.2.2.2.2.2.2.1; omega
  obtain ⟨nf, hnf⟩ : ∃ nf, fs.length = nf := ⟨_, rfl⟩
  have HNF := Lib.hid hnf
  rw [hnf] at hcc c0 hnn
  have hin : (i : Int) < (nf : Int) := by omega
  have hin0 : (0 : Int) ≤ (i : Int) := by omega
  obtain ⟨nm0, hnm0⟩ : ∃ nm0, fs[i].name = nm0 := ⟨_, rfl⟩
  obtain ⟨L, hL⟩ : ∃ L, fs[i].data.length = L := ⟨_, rfl⟩
  obtain ⟨S, hS⟩ : ∃ S, fs[i].sure = S := ⟨_, rfl⟩
  obtain ⟨xA, hxA⟩ : ∃ a, fs[i].x.A = a := ⟨_, rfl⟩
  obtain ⟨xc, hxc⟩ : ∃ a, fs[i].x.c = a := ⟨_, rfl⟩
  have hcm2 := hrdf.1.rd.max
  have hLc := hrdf.1.rd.cap
  rw [hL] at hLc
  rw [hxc] at hLc hcm2
  rw [hnm0] at q0
  rw [hL, hxA, hxc] at q1
  rw [hS] at q2
  have HL := Lib.hid hL; have HS := Lib.hid hS; have HXA := Lib.hid hxA; have HXC := Lib.hid hxc
  have hSL : S ≤ L := by have := hrdf.2; omega
  clear hR h1 h2 hne ht hpl hrdf hnf hnm0 hL hS hxA hxc
  have hsh' : S < L := by rw [← HS.out, ← HL.out]; exact hsh
  clear hsh
  have hq2 : decide ((S : Int) < (L : Int)) = true := by simp; omega
  go_enter Try.func23, Try.ntmps23
  go_wp2_with fail
  refine HN1.out.mono ?_
  rintro e w1 ⟨rfl, rfl⟩
  go_wp2_with fail
  refine HN2.out.mono ?_
  rintro e w2 ⟨rfl, rfl⟩
  go_wp2_with fail
  refine HTH.out.mono ?_
  rintro e w3 ⟨rfl, rfl⟩
  go_wp2_with fail
  have HKEEP := Lib.hid (show ∀ W : World, Below w3.heap.size w3 W → W.cell? ⟨X, 0, none⟩ = some (.slice (some ⟨g, 0, none⟩) nf c0') ∧ W.cell? ⟨g, i * 3, none⟩ = some (.string ⟨nm0.toArray⟩) ∧ W.cell? ⟨g, i * 3 + 1, none⟩ = some (.slice xA L xc) ∧ W.cell? ⟨g, i * 3 + 2, none⟩ = some (.int .i64 (S : Int)) ∧ Below w3.heap.size w3 W from
    fun W hb => ⟨(hb.cell (p := ⟨X, 0, none⟩) hXl).trans c0, (hb.cell (p := ⟨g, i * 3, none⟩) hg).trans q0, (hb.cell (p := ⟨g, i * 3 + 1, none⟩) hg).trans q1, (hb.cell (p := ⟨g, i * 3 + 2, none⟩) hg).trans q2, hb⟩)
  have HBA := Lib.hid (show ∀ o : Obj, Below w3.heap.size w3 ((w3.alloc o).drew) from fun o => by
    have hb3 := (Below.refl w3.heap.size w3).alloc (Nat.le_refl _) o
    exact ⟨hb3.os, hb3.tape, hb3.output, hb3.size, hb3.block⟩)
  go_region_held3 (fun W => W.cell? ⟨X, 0, none⟩ = some (.slice (some ⟨g, 0, none⟩) nf c0') ∧ W.cell? ⟨g, i * 3, none⟩ = some (.string ⟨nm0.toArray⟩) ∧ W.cell? ⟨g, i * 3 + 1, none⟩ = some (.slice xA L xc) ∧ W.cell? ⟨g, i * 3 + 2, none⟩ = some (.int .i64 (S : Int)) ∧ Below w3.heap.size w3 W)
    (first | exact hHeld | exact HKEEP.out _ ⟨rfl, rfl, rfl, Nat.le_refl _, fun _ _ => rfl⟩ | exact HKEEP.out _ (HBA.out _) | fail)
    (first
      | (go_at_call 38; refine (HAT.out _ ‹_ ∧ _ ∧ _ ∧ _ ∧ Below w3.heap.size w3 _›.2.2.2.2).mono ?_; rintro e w2 ⟨rfl, rfl⟩)
      | fail)
  all_goals
    have hb4 := HBA.out (.cells #[.string ⟨nm0.toArray⟩, .slice xA L xc, .int .i64 (S : Int)] 60)
    have y1 : ((w3.alloc (.cells #[.string ⟨nm0.toArray⟩, .slice xA L xc, .int .i64 (S : Int)] 60)).drew).cell? ⟨w3.heap.size, 1, none⟩ = some (.slice xA L xc) := (cellAt 1 (heapNew (w := w3) (.cells #[.string ⟨nm0.toArray⟩, .slice xA L xc, .int .i64 (S : Int)] 60))).trans rfl
    have y2 : ((w3.alloc (.cells #[.string ⟨nm0.toArray⟩, .slice xA L xc, .int .i64 (S : Int)] 60)).drew).cell? ⟨w3.heap.size, 2, none⟩ = some (.int .i64 (S : Int)) := (cellAt 2 (heapNew (w := w3) (.cells #[.string ⟨nm0.toArray⟩, .slice xA L xc, .int .i64 (S : Int)] 60))).trans rfl
    have hz4 : w3.heap.size < ((w3.alloc (.cells #[.string ⟨nm0.toArray⟩, .slice xA L xc, .int .i64 (S : Int)] 60)).drew).heap.size := by show _ < (w3.alloc _).heap.size; simp
    have HB4 := Lib.hid hb4
    clear hb4 c0 q0 q1 q2 HKEEP HBA HAT
    generalize ((w3.alloc (.cells #[.string ⟨nm0.toArray⟩, .slice xA L xc, .int .i64 (S : Int)] 60)).drew) = w4 at *
    go_wp2
    go_ret
    exact ⟨rfl, F, ⟨_, _, HR.out.below HB4.out⟩, Turned.of_below HB4.out, Spread.refl _ _⟩

set_option maxHeartbeats 8000000 in
theorem ref_rename_crash (X : Nat) (F : Nat → Prop) (v : Value) (fs : List (File Sl)) (s : St) (nm to : ByteArray) (w : World) (hR : RefF K w F X v fs s) (hs : nm.size ≤ 9223372036854775807) (hs2 : to.size ≤ 9223372036854775807) (h1 : nameOk nm = true) (h2 : nameOk to = true) (hne : ¬ nm.data.toList = to.data.toList) (ht : thereE s nm = 0) (i : Nat) (hi : i < fs.length) (hpl : placeOf nm.data.toList fs = (i : Int)) (hsh : ¬ fs[i].sure < fs[i].data.length) (hoff : s.off = false) (hfu : (s.fuse == 1) = true) (ho : s.ops + 1 < 1099511627776) :
    Calls Try.prog 23 #[.pointer (some ⟨X, 0, none⟩), .string nm, .string to] w (RDid K F X 10 (s.op s.files) w) := by
  have HOP := Lib.hid (fun (W : World) (hb : Below w.heap.size w W) => ref_op_any X F v fs s W (hR.below hb) ho)
  rw [hoff, hfu] at HOP
  have HN1 := Lib.hid (ref_name_any nm w hs)
  have HN2 := Lib.hid (ref_name_any to w hs2)
  have HTH := Lib.hid (ref_there_any X F v fs s nm w hR hs)
  have HR := Lib.hid hR
  rw [h1] at HN1
  rw [h2] at HN2
  rw [ht] at HTH
  have HNE := Lib.hid hne
  have hq : (nm.toList == to.toList) = false := by rw [eq_names]; simpa using hne
  have HAT := Lib.hid (fun (W : World) (hb : Below w.heap.size w W) => ref_at_any X F v fs s nm W (hR.below hb))
  simp only [hpl] at HAT
  obtain ⟨A0, c0', rfl, hcc, hccm⟩ := hR.form
  obtain ⟨g, rfl, hg, _, _, q0, q1, q2⟩ := hR.at_ hi
  have c0 := hR.1.c0
  have HX0 := Lib.hid (hR.2.2.2.2.2.2.2.2 X hR.2.1)
  have hXl := hR.2.2.2.2.2.2.2.2 X hR.2.1
  have hrdf := (hR.2.2.2.2.2.2.1 fs[i] (List.getElem_mem hi))
  have HRDF := Lib.hid hrdf
  have hnn : fs.length < 1099511627776 := by have := hR.2.2.2.2.2.2.2.1; omega
  obtain ⟨nf, hnf⟩ : ∃ nf, fs.length = nf := ⟨_, rfl⟩
  have HNF := Lib.hid hnf
  rw [hnf] at hcc c0 hnn
  have hin : (i : Int) < (nf : Int) := by omega
  have hin0 : (0 : Int) ≤ (i : Int) := by omega
  obtain ⟨nm0, hnm0⟩ : ∃ nm0, fs[i].name = nm0 := ⟨_, rfl⟩
  obtain ⟨L, hL⟩ : ∃ L, fs[i].data.length = L := ⟨_, rfl⟩
  obtain ⟨S, hS⟩ : ∃ S, fs[i].sure = S := ⟨_, rfl⟩
  obtain ⟨xA, hxA⟩ : ∃ a, fs[i].x.A = a := ⟨_, rfl⟩
  obtain ⟨xc, hxc⟩ : ∃ a, fs[i].x.c = a := ⟨_, rfl⟩
  have hcm2 := hrdf.1.rd.max
  have hLc := hrdf.1.rd.cap
  rw [hL] at hLc
  rw [hxc] at hLc hcm2
  rw [hnm0] at q0
  rw [hL, hxA, hxc] at q1
  rw [hS] at q2
  have HL := Lib.hid hL; have HS := Lib.hid hS; have HXA := Lib.hid hxA; have HXC := Lib.hid hxc
  have hSL : S ≤ L := by have := hrdf.2; omega
  clear hR h1 h2 hne ht hpl hrdf hnf hnm0 hL hS hxA hxc
  have hsh' : ¬ S < L := by rw [← HS.out, ← HL.out]; exact hsh
  clear hsh hoff hfu
  have hq2 : decide ((S : Int) < (L : Int)) = false := by simp; omega
  go_enter Try.func23, Try.ntmps23
  go_wp2_with fail
  refine HN1.out.mono ?_
  rintro e w1 ⟨rfl, rfl⟩
  go_wp2_with fail
  refine HN2.out.mono ?_
  rintro e w2 ⟨rfl, rfl⟩
  go_wp2_with fail
  refine HTH.out.mono ?_
  rintro e w3 ⟨rfl, rfl⟩
  go_wp2_with fail
  have HKEEP := Lib.hid (show ∀ W : World, Below w3.heap.size w3 W → W.cell? ⟨X, 0, none⟩ = some (.slice (some ⟨g, 0, none⟩) nf c0') ∧ W.cell? ⟨g, i * 3, none⟩ = some (.string ⟨nm0.toArray⟩) ∧ W.cell? ⟨g, i * 3 + 1, none⟩ = some (.slice xA L xc) ∧ W.cell? ⟨g, i * 3 + 2, none⟩ = some (.int .i64 (S : Int)) ∧ Below w3.heap.size w3 W from
    fun W hb => ⟨(hb.cell (p := ⟨X, 0, none⟩) hXl).trans c0, (hb.cell (p := ⟨g, i * 3, none⟩) hg).trans q0, (hb.cell (p := ⟨g, i * 3 + 1, none⟩) hg).trans q1, (hb.cell (p := ⟨g, i * 3 + 2, none⟩) hg).trans q2, hb⟩)
  have HBA := Lib.hid (show ∀ o : Obj, Below w3.heap.size w3 ((w3.alloc o).drew) from fun o => by
    have hb3 := (Below.refl w3.heap.size w3).alloc (Nat.le_refl _) o
    exact ⟨hb3.os, hb3.tape, hb3.output, hb3.size, hb3.block⟩)
  go_region_held3 (fun W => W.cell? ⟨X, 0, none⟩ = some (.slice (some ⟨g, 0, none⟩) nf c0') ∧ W.cell? ⟨g, i * 3, none⟩ = some (.string ⟨nm0.toArray⟩) ∧ W.cell? ⟨g, i * 3 + 1, none⟩ = some (.slice xA L xc) ∧ W.cell? ⟨g, i * 3 + 2, none⟩ = some (.int .i64 (S : Int)) ∧ Below w3.heap.size w3 W)
    (first | exact hHeld | exact HKEEP.out _ ⟨rfl, rfl, rfl, Nat.le_refl _, fun _ _ => rfl⟩ | exact HKEEP.out _ (HBA.out _) | fail)
    (first
      | (go_at_call 38; refine (HAT.out _ ‹_ ∧ _ ∧ _ ∧ _ ∧ Below w3.heap.size w3 _›.2.2.2.2).mono ?_; rintro e w2 ⟨rfl, rfl⟩)
      | fail)
  all_goals
    have hb4 := HBA.out (.cells #[.string ⟨nm0.toArray⟩, .slice xA L xc, .int .i64 (S : Int)] 60)
    have y1 : ((w3.alloc (.cells #[.string ⟨nm0.toArray⟩, .slice xA L xc, .int .i64 (S : Int)] 60)).drew).cell? ⟨w3.heap.size, 1, none⟩ = some (.slice xA L xc) := (cellAt 1 (heapNew (w := w3) (.cells #[.string ⟨nm0.toArray⟩, .slice xA L xc, .int .i64 (S : Int)] 60))).trans rfl
    have y2 : ((w3.alloc (.cells #[.string ⟨nm0.toArray⟩, .slice xA L xc, .int .i64 (S : Int)] 60)).drew).cell? ⟨w3.heap.size, 2, none⟩ = some (.int .i64 (S : Int)) := (cellAt 2 (heapNew (w := w3) (.cells #[.string ⟨nm0.toArray⟩, .slice xA L xc, .int .i64 (S : Int)] 60))).trans rfl
    have hz4 : w3.heap.size < ((w3.alloc (.cells #[.string ⟨nm0.toArray⟩, .slice xA L xc, .int .i64 (S : Int)] 60)).drew).heap.size := by show _ < (w3.alloc _).heap.size; simp
    have HB4 := Lib.hid hb4
    clear hb4 c0 q0 q1 q2 HKEEP HBA HAT
    generalize ((w3.alloc (.cells #[.string ⟨nm0.toArray⟩, .slice xA L xc, .int .i64 (S : Int)] 60)).drew) = w4 at *
    go_wp2_with fail
    refine (HOP.out w4 HB4.out).mono ?_
    rintro e w5 ⟨rfl, hR5, ht5⟩
    have HR5 := Lib.hid hR5; have HT5 := Lib.hid ht5
    clear hR5 ht5
    go_wp2
    go_ret
    exact ⟨rfl, F, ⟨_, _, HR5.out⟩, (Turned.of_below HB4.out).trans (HT5.out.more (fun k _ hk => by subst hk; exact HR.out.2.1)), Spread.refl _ _⟩

end Go.Proofs.Ytglfbigklnaegaa
