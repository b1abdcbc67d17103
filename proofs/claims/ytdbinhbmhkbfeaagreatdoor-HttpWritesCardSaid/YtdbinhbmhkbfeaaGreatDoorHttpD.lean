/-
  A head in memory ('HdIn'), and what (*http.head).line does, by a contract. (Written by gen_httpd.py.)
-/
import Derived.Test.YtdbinhbmhkbfeaaGreatDoorHttpC
namespace Go.Proofs.YtdbinhbmhkbfeaaGreatDoor
open Go.RowKit Mem
set_option linter.unusedVariables false
set_option maxRecDepth 100000

theorem bl_mk (l : List UInt8) : bl ⟨l.toArray⟩ = l := by simp
theorem mk_bl (s : ByteArray) : (⟨(bl s).toArray⟩ : ByteArray) = s := by simp
theorem size_mk (l : List UInt8) : (⟨l.toArray⟩ : ByteArray).size = l.length := by show l.toArray.size = _; simp

def hcells (m pa : List UInt8) (h : M.Hd) : Array Value := #[.string ⟨m.toArray⟩, .string ⟨pa.toArray⟩, .string ⟨#[]⟩, .bool h.close, .int .i64 (h.hosts : Int), .int .i64 (h.lengths : Int), .int .i64 (h.length : Int)]
/-- the block g is a head -/
def HdIn (w : World) (g : Nat) (m pa : List UInt8) (h : M.Hd) : Prop := w.heap[g]? = some (.cells (hcells m pa h) 50 (0, 0))
section
variable {w w' : World} {g : Nat} {m pa : List UInt8} {h : M.Hd}
theorem HdIn.lt (H : HdIn w g m pa h) : g < w.heap.size := heapLt H
theorem HdIn.on (H : HdIn w g m pa h) (hb : Below w.heap.size w w') : HdIn w' g m pa h := (hb.block g H.lt).trans H
theorem HdIn.c3 (H : HdIn w g m pa h) : w.cell? ⟨g, 3, none⟩ = some (.bool h.close) := (cellAt 3 H).trans rfl
theorem HdIn.c4 (H : HdIn w g m pa h) : w.cell? ⟨g, 4, none⟩ = some (.int .i64 (h.hosts : Int)) := (cellAt 4 H).trans rfl
theorem HdIn.c5 (H : HdIn w g m pa h) : w.cell? ⟨g, 5, none⟩ = some (.int .i64 (h.lengths : Int)) := (cellAt 5 H).trans rfl
theorem HdIn.c6 (H : HdIn w g m pa h) : w.cell? ⟨g, 6, none⟩ = some (.int .i64 (h.length : Int)) := (cellAt 6 H).trans rfl
theorem HdIn.free (H : HdIn w g m pa h) (i : Nat) : w.frozen? ⟨g, i, none⟩ = false := freeAt i H
theorem HdIn.s3 (H : HdIn w g m pa h) (b : Bool) : HdIn (w.setCell ⟨g, 3, none⟩ (.bool b)) g m pa { h with close := b } := (heapSet 3 _ H).trans rfl
theorem HdIn.s4 (H : HdIn w g m pa h) (n : Nat) : HdIn (w.setCell ⟨g, 4, none⟩ (.int .i64 (n : Int))) g m pa { h with hosts := n } := (heapSet 4 _ H).trans rfl
theorem HdIn.s5 (H : HdIn w g m pa h) (n : Nat) : HdIn (w.setCell ⟨g, 5, none⟩ (.int .i64 (n : Int))) g m pa { h with lengths := n } := (heapSet 5 _ H).trans rfl
theorem HdIn.s6 (H : HdIn w g m pa h) (n : Nat) : HdIn (w.setCell ⟨g, 6, none⟩ (.int .i64 (n : Int))) g m pa { h with length := n } := (heapSet 6 _ H).trans rfl
end
/-- behind a line: it is right, and the head knows of it; or it isn't -/
def LineDid (g : Nat) (m pa : List UInt8) (o : Option M.Hd) (w : World) (e : Ending) (w' : World) : Prop :=
  e = .returned (.bool o.isSome) ∧ Below g w w' ∧ ∀ h', o = some h' → HdIn w' g m pa h'

theorem num_bound {l : List UInt8} {n : Nat} (h : M.num l = some n) : n ≤ 9223372036854775807 := by
  unfold M.num at h
  split at h
  · rename_i v hv
    split at h
    · injection h with h
      have := atoi_in hv
      omega
    · cases h
  · cases h
theorem eq_low (l c : List UInt8) (hc : (c.all fun b => decide (b.toNat < 128)) = true) : (Lib.mapD lowZ l == c) = decide (l.map M.lowr = c) := by
  have := mapD_low l c hc
  rw [Bool.eq_iff_iff, beq_iff_eq, decide_eq_true_eq]
  exact this

/-- strings.Cut at a colon -/
theorem cut_any (s : ByteArray) (w : World) (hs : s.size < 4294967281) (hV : Vars w) : Calls Tryz.prog 18 #[.string s, .string ⟨#[58]⟩] w fun e w' =>
    e = .returned (.tuple #[.string ⟨(Lib.cut (bl s) [58]).1.toArray⟩, .string ⟨(Lib.cut (bl s) [58]).2.1.toArray⟩, .bool (Lib.cut (bl s) [58]).2.2]) ∧ Below w.heap.size w w' := by
  obtain ⟨mx, hm⟩ := hV.max
  exact (Tryz.strings_Cut s ⟨#[58]⟩ mx w hs hm).mono fun e w' ⟨he, n, hw⟩ => ⟨he, by rw [hw]; exact bel_drewN (Below.refl _ _) n⟩
theorem trim_any (l : List UInt8) (w : World) (hs : l.length ≤ 9223372036854775807) : Calls Tryz.prog 46 #[.string ⟨l.toArray⟩, .string ⟨#[32, 9]⟩] w (SaysT (M.trim l) w) := by
  have := Any.strings_Trim_laid Tryz.lays160 (by kernel_rfl) ⟨l.toArray⟩ ⟨#[32, 9]⟩ w (by rw [size_mk]; exact hs) (by decide) (ascii_of_all (by decide))
  refine this.mono fun e w' ⟨he, hb⟩ => ⟨?_, hb⟩
  rw [he]
  show Ending.returned (.string ⟨(Lib.trimS (bl ⟨l.toArray⟩) [32, 9]).toArray⟩) = _
  rw [bl_mk]
  rfl
theorem trim_len (l : List UInt8) : (M.trim l).length ≤ l.length := by
  have dw : ∀ (p : UInt8 → Bool) (l : List UInt8), (l.dropWhile p).length ≤ l.length := fun p l => (List.dropWhile_suffix p).length_le
  unfold M.trim Lib.trimS Lib.trimLeftS Lib.trimRightS
  refine Nat.le_trans (dw _ _) ?_
  rw [List.length_reverse]
  refine Nat.le_trans (dw _ _) ?_
  rw [List.length_reverse]
  exact Nat.le_refl _
theorem isName_at (l : List UInt8) (w : World) : Calls Tryz.prog 44 #[.string ⟨l.toArray⟩] w (SaysB (M.isName l) w) := by have := isName_any ⟨l.toArray⟩ w; rwa [bl_mk] at this
theorem isValue_at (l : List UInt8) (w : World) : Calls Tryz.prog 47 #[.string ⟨l.toArray⟩] w (SaysB (M.isValue l) w) := by have := isValue_any ⟨l.toArray⟩ w; rwa [bl_mk] at this
theorem small_at (l : List UInt8) (w : World) (hs : l.length < 35184372088832) (hV : Vars w) : Calls Tryz.prog 48 #[.string ⟨l.toArray⟩] w (SaysT (Lib.mapD lowZ l) w) := by
  have := small_any ⟨l.toArray⟩ w (by rw [size_mk]; exact hs) hV
  rwa [bl_mk] at this
theorem number_at (l : List UInt8) (w : World) (hs : l.length ≤ 140737488355328) (hV : Vars w) : Calls Tryz.prog 19 #[.string ⟨l.toArray⟩] w fun e w' => e = .returned (numT l) ∧ Below w.heap.size w w' := by
  have := number_any ⟨l.toArray⟩ w (by rw [size_mk]; exact hs) hV
  rwa [bl_mk] at this
theorem numT_some {l : List UInt8} {n : Nat} (h : M.num l = some n) : numT l = .tuple #[.int .i64 (n : Int), .bool true] := by unfold numT; rw [h]
theorem numT_none {l : List UInt8} (h : M.num l = none) : numT l = .tuple #[.int .i64 0, .bool false] := by unfold numT; rw [h]

set_option maxHeartbeats 4000000 in
theorem line_any (s : ByteArray) (g : Nat) (m pa : List UInt8) (h : M.Hd) (w : World) (hs : s.size ≤ 1048576) (hH : HdIn w g m pa h) (hh : h.hosts ≤ 1048576) (hl : h.lengths ≤ 1048576) (hV : Vars w) (HV6 : ∀ w', Below g w w' → Vars w') :
    Calls Tryz.prog 35 #[.pointer (some ⟨g, 0, none⟩), .string s] w (LineDid g m pa (M.lineStep h (bl s)) w) := by
  have hln : (bl s).length = s.size := bl_len s
  have HV := Lib.hid hV; have HH := Lib.hid hH
  have hg : g < w.heap.size := hH.lt
  have hg0 : g ≤ w.heap.size := Nat.le_of_lt hg
  have hcut := cut_any s w (by omega) hV
  rw [M.cut_fi] at hcut
  clear hV hH
  have hfle := M.fi_le 58 (bl s)
  by_cases hf : M.fi 58 (bl s) < (bl s).length
  · rw [if_pos hf] at hcut
    have HST := Lib.hid (show M.lineStep h (bl s) = if M.isName ((bl s).take (M.fi 58 (bl s))) = true ∧ M.isValue (M.trim ((bl s).drop (M.fi 58 (bl s) + 1))) = true then M.field h (((bl s).take (M.fi 58 (bl s))).map M.lowr) (M.trim ((bl s).drop (M.fi 58 (bl s) + 1))) else none by unfold M.lineStep; rw [if_neg (by omega)])
    have hnl : ((bl s).take (M.fi 58 (bl s))).length ≤ 1048576 := by simp; omega
    have hvl : ((bl s).drop (M.fi 58 (bl s) + 1)).length ≤ 1048576 := by simp; omega
    generalize (bl s).take (M.fi 58 (bl s)) = N at *
    generalize (bl s).drop (M.fi 58 (bl s) + 1) = V at *
    have htl := trim_len V
    generalize M.lineStep h (bl s) = R at *
    simp only at hcut
    have HCUT := Lib.hid hcut
    have HTR := Lib.hid (fun w1 => trim_any V w1 (by omega))
    clear hcut hf hfle
    have hvl2 : (M.trim V).length ≤ 1048576 := by omega
    clear htl hvl
    generalize M.trim V = T at *
    have HNM := Lib.hid (fun w1 => isName_at N w1)
    have HVA := Lib.hid (fun w1 => isValue_at T w1)
    have HSN := Lib.hid (fun w1 => small_at N w1 (by omega))
    have HST2 := Lib.hid (fun w1 => small_at T w1 (by omega))
    have HNU := Lib.hid (fun w1 => number_at T w1 (by omega))
    generalize hbn : M.isName N = bn at *
    generalize hbv : M.isValue T = bv at *
    clear hbn hbv
    cases bn with
    | false =>
      have HR := Lib.hid (show R = none by rw [HST.out]; simp)
      go_enter Tryz.func35, Tryz.ntmps35
      go_wp2_with fail
      refine HCUT.out.mono ?_
      rintro e w1 ⟨rfl, hb1⟩
      have HB1 := Lib.hid hb1
      clear hb1
      go_wp2_with fail
      refine (HTR.out w1).mono ?_
      rintro e w2 ⟨rfl, hb2⟩
      have HB2 := Lib.hid (HB1.out.trans (hb2.mono HB1.out.size))
      clear hb2
      go_wp2_with fail
      refine (HNM.out w2).mono ?_
      rintro e w3 ⟨rfl, hb3⟩
      have HB3 := Lib.hid (HB2.out.trans (hb3.mono HB2.out.size))
      clear hb3
      go_wp2
      go_ret
      exact ⟨by rw [HR.out]; rfl, HB3.out.mono hg0, fun h' e => by rw [HR.out] at e; cases e⟩
    | true =>
      cases bv with
      | false =>
        have HR := Lib.hid (show R = none by rw [HST.out]; simp)
        go_enter Tryz.func35, Tryz.ntmps35
        go_wp2_with fail
        refine HCUT.out.mono ?_
        rintro e w1 ⟨rfl, hb1⟩
        have HB1 := Lib.hid hb1
        clear hb1
        go_wp2_with fail
        refine (HTR.out w1).mono ?_
        rintro e w2 ⟨rfl, hb2⟩
        have HB2 := Lib.hid (HB1.out.trans (hb2.mono HB1.out.size))
        clear hb2
        go_wp2_with fail
        refine (HNM.out w2).mono ?_
        rintro e w3 ⟨rfl, hb3⟩
        have HB3 := Lib.hid (HB2.out.trans (hb3.mono HB2.out.size))
        clear hb3
        go_wp2_with fail
        refine (HVA.out w3).mono ?_
        rintro e w4 ⟨rfl, hb4⟩
        have HB4 := Lib.hid (HB3.out.trans (hb4.mono HB3.out.size))
        clear hb4
        go_wp2
        go_ret
        exact ⟨by rw [HR.out]; rfl, HB4.out.mono hg0, fun h' e => by rw [HR.out] at e; cases e⟩
      | true =>
        have HR := Lib.hid (show R = M.field h (N.map M.lowr) T by rw [HST.out]; simp)
        have q1 := eq_low N M.hostW (by decide)
        have q2 := eq_low N M.lenW (by decide)
        have q3 := eq_low N M.encW (by decide)
        have q4 := eq_low N M.conW (by decide)
        have q5 := eq_low T M.closeW (by decide)
        clear HST
        generalize N.map M.lowr = Z at *
        generalize Lib.mapD lowZ N = t at *
        generalize Lib.mapD lowZ T = tv at *
        generalize hZv : T.map M.lowr = Zv at *
        by_cases c1 : Z = M.hostW
        · rw [decide_eq_true c1] at q1
          have HX := Lib.hid (show R = some { h with hosts := h.hosts + 1 } by rw [HR.out]; unfold M.field; rw [if_pos c1])
          change (t == [104, 111, 115, 116]) = true at q1
          clear q2 q3 q4 q5 c1 HR
          go_enter Tryz.func35, Tryz.ntmps35
          go_wp2_with fail
          refine HCUT.out.mono ?_
          rintro e w1 ⟨rfl, hb1⟩
          have HB1 := Lib.hid hb1
          clear hb1
          go_wp2_with fail
          refine (HTR.out w1).mono ?_
          rintro e w2 ⟨rfl, hb2⟩
          have HB2 := Lib.hid (HB1.out.trans (hb2.mono HB1.out.size))
          clear hb2
          go_wp2_with fail
          refine (HNM.out w2).mono ?_
          rintro e w3 ⟨rfl, hb3⟩
          have HB3 := Lib.hid (HB2.out.trans (hb3.mono HB2.out.size))
          clear hb3
          go_wp2_with fail
          refine (HVA.out w3).mono ?_
          rintro e w4 ⟨rfl, hb4⟩
          have HB4 := Lib.hid (HB3.out.trans (hb4.mono HB3.out.size))
          clear hb4
          go_wp2_with fail
          refine (HSN.out w4 (HV.out.below HB4.out)).mono ?_
          rintro e w5 ⟨rfl, hb5⟩
          have HB5 := Lib.hid (HB4.out.trans (hb5.mono HB4.out.size))
          clear hb5
          have HH5 := Lib.hid (HH.out.on HB5.out)
          have k4 := HH5.out.c4
          have f4 := HH5.out.free 4
          go_wp2
          go_ret
          exact ⟨by rw [HX.out]; rfl, (HB5.out.mono hg0).setCell (Nat.le_refl _) _, fun h' e => by rw [HX.out] at e; injection e with e; subst e; exact HH5.out.s4 (h.hosts + 1)⟩
        · rw [decide_eq_false c1] at q1
          change (t == [104, 111, 115, 116]) = false at q1
          by_cases c2 : Z = M.lenW
          · rw [decide_eq_true c2] at q2
            change (t == [99, 111, 110, 116, 101, 110, 116, 45, 108, 101, 110, 103, 116, 104]) = true at q2
            have HX := Lib.hid (show R = match M.len9 T with | some x => some { h with lengths := h.lengths + 1, length := x } | none => none by rw [HR.out]; unfold M.field; rw [if_neg c1, if_pos c2]; cases M.len9 T <;> rfl)
            clear q3 q4 q5 c1 c2 HR
            cases hnum : M.num T with
            | none =>
              have HN0 := Lib.hid (numT_none hnum)
              have HY := Lib.hid (show R = none by rw [HX.out]; unfold M.len9; rw [hnum]; split <;> simp_all)
              clear hnum
              go_enter Tryz.func35, Tryz.ntmps35
              go_wp2_with fail
              refine HCUT.out.mono ?_
              rintro e w1 ⟨rfl, hb1⟩
              have HB1 := Lib.hid hb1
              clear hb1
              go_wp2_with fail
              refine (HTR.out w1).mono ?_
              rintro e w2 ⟨rfl, hb2⟩
              have HB2 := Lib.hid (HB1.out.trans (hb2.mono HB1.out.size))
              clear hb2
              go_wp2_with fail
              refine (HNM.out w2).mono ?_
              rintro e w3 ⟨rfl, hb3⟩
              have HB3 := Lib.hid (HB2.out.trans (hb3.mono HB2.out.size))
              clear hb3
              go_wp2_with fail
              refine (HVA.out w3).mono ?_
              rintro e w4 ⟨rfl, hb4⟩
              have HB4 := Lib.hid (HB3.out.trans (hb4.mono HB3.out.size))
              clear hb4
              go_wp2_with fail
              refine (HSN.out w4 (HV.out.below HB4.out)).mono ?_
              rintro e w5 ⟨rfl, hb5⟩
              have HB5 := Lib.hid (HB4.out.trans (hb5.mono HB4.out.size))
              clear hb5
              have HH5 := Lib.hid (HH.out.on HB5.out)
              have k5 := HH5.out.c5
              have f5 := HH5.out.free 5
              have HB6 := Lib.hid ((HB5.out.mono hg0).setCell (p := ⟨g, 5, none⟩) (Nat.le_refl _) (.int .i64 ((h.lengths : Int) + 1)))
              have HH6 := Lib.hid (HH5.out.s5 (h.lengths + 1))
              have hlt6 : g < (w5.setCell ⟨g, 5, none⟩ (.int .i64 ((h.lengths : Int) + 1))).heap.size := by simpa using HH5.out.lt
              go_wp2_with fail
              refine (HNU.out _ (HV6 _ HB6.out)).mono ?_
              rintro e w7 ⟨rfl, hb7⟩
              have HH7 := Lib.hid (HH6.out.on hb7)
              have HB7 := Lib.hid (HB6.out.trans (hb7.mono (Nat.le_of_lt hlt6)))
              have k6 := HH7.out.c6
              have f6 := HH7.out.free 6
              rw [HN0.out]
              clear hb7 hlt6
              go_wp2
              go_ret
              exact ⟨by rw [HY.out]; rfl, HB7.out.setCell (Nat.le_refl _) _, fun h' e => by rw [HY.out] at e; cases e⟩
            | some n =>
              have HN0 := Lib.hid (numT_some hnum)
              have hn63 := num_bound hnum
              by_cases h9 : T.length ≤ 9
              · have HY := Lib.hid (show R = some { h with lengths := h.lengths + 1, length := n } by rw [HX.out]; unfold M.len9; rw [if_pos h9, hnum])
                clear hnum
                go_enter Tryz.func35, Tryz.ntmps35
                go_wp2_with fail
                refine HCUT.out.mono ?_
                rintro e w1 ⟨rfl, hb1⟩
                have HB1 := Lib.hid hb1
                clear hb1
                go_wp2_with fail
                refine (HTR.out w1).mono ?_
                rintro e w2 ⟨rfl, hb2⟩
                have HB2 := Lib.hid (HB1.out.trans (hb2.mono HB1.out.size))
                clear hb2
                go_wp2_with fail
                refine (HNM.out w2).mono ?_
                rintro e w3 ⟨rfl, hb3⟩
                have HB3 := Lib.hid (HB2.out.trans (hb3.mono HB2.out.size))
                clear hb3
                go_wp2_with fail
                refine (HVA.out w3).mono ?_
                rintro e w4 ⟨rfl, hb4⟩
                have HB4 := Lib.hid (HB3.out.trans (hb4.mono HB3.out.size))
                clear hb4
                go_wp2_with fail
                refine (HSN.out w4 (HV.out.below HB4.out)).mono ?_
                rintro e w5 ⟨rfl, hb5⟩
                have HB5 := Lib.hid (HB4.out.trans (hb5.mono HB4.out.size))
                clear hb5
                have HH5 := Lib.hid (HH.out.on HB5.out)
                have k5 := HH5.out.c5
                have f5 := HH5.out.free 5
                have HB6 := Lib.hid ((HB5.out.mono hg0).setCell (p := ⟨g, 5, none⟩) (Nat.le_refl _) (.int .i64 ((h.lengths : Int) + 1)))
                have HH6 := Lib.hid (HH5.out.s5 (h.lengths + 1))
                have hlt6 : g < (w5.setCell ⟨g, 5, none⟩ (.int .i64 ((h.lengths : Int) + 1))).heap.size := by simpa using HH5.out.lt
                go_wp2_with fail
                refine (HNU.out _ (HV6 _ HB6.out)).mono ?_
                rintro e w7 ⟨rfl, hb7⟩
                have HH7 := Lib.hid (HH6.out.on hb7)
                have HB7 := Lib.hid (HB6.out.trans (hb7.mono (Nat.le_of_lt hlt6)))
                have k6 := HH7.out.c6
                have f6 := HH7.out.free 6
                rw [HN0.out]
                clear hb7 hlt6
                go_wp2
                go_ret
                exact ⟨by rw [HY.out]; show Ending.returned (Value.bool (decide ((T.length : Int) ≤ 9))) = _; rw [decide_eq_true (by omega)]; rfl, HB7.out.setCell (Nat.le_refl _) _, fun h' e => by rw [HY.out] at e; injection e with e; subst e; exact HH7.out.s6 n⟩
              · have HY := Lib.hid (show R = none by rw [HX.out]; unfold M.len9; rw [if_neg h9])
                clear hnum
                go_enter Tryz.func35, Tryz.ntmps35
                go_wp2_with fail
                refine HCUT.out.mono ?_
                rintro e w1 ⟨rfl, hb1⟩
                have HB1 := Lib.hid hb1
                clear hb1
                go_wp2_with fail
                refine (HTR.out w1).mono ?_
                rintro e w2 ⟨rfl, hb2⟩
                have HB2 := Lib.hid (HB1.out.trans (hb2.mono HB1.out.size))
                clear hb2
                go_wp2_with fail
                refine (HNM.out w2).mono ?_
                rintro e w3 ⟨rfl, hb3⟩
                have HB3 := Lib.hid (HB2.out.trans (hb3.mono HB2.out.size))
                clear hb3
                go_wp2_with fail
                refine (HVA.out w3).mono ?_
                rintro e w4 ⟨rfl, hb4⟩
                have HB4 := Lib.hid (HB3.out.trans (hb4.mono HB3.out.size))
                clear hb4
                go_wp2_with fail
                refine (HSN.out w4 (HV.out.below HB4.out)).mono ?_
                rintro e w5 ⟨rfl, hb5⟩
                have HB5 := Lib.hid (HB4.out.trans (hb5.mono HB4.out.size))
                clear hb5
                have HH5 := Lib.hid (HH.out.on HB5.out)
                have k5 := HH5.out.c5
                have f5 := HH5.out.free 5
                have HB6 := Lib.hid ((HB5.out.mono hg0).setCell (p := ⟨g, 5, none⟩) (Nat.le_refl _) (.int .i64 ((h.lengths : Int) + 1)))
                have HH6 := Lib.hid (HH5.out.s5 (h.lengths + 1))
                have hlt6 : g < (w5.setCell ⟨g, 5, none⟩ (.int .i64 ((h.lengths : Int) + 1))).heap.size := by simpa using HH5.out.lt
                go_wp2_with fail
                refine (HNU.out _ (HV6 _ HB6.out)).mono ?_
                rintro e w7 ⟨rfl, hb7⟩
                have HH7 := Lib.hid (HH6.out.on hb7)
                have HB7 := Lib.hid (HB6.out.trans (hb7.mono (Nat.le_of_lt hlt6)))
                have k6 := HH7.out.c6
                have f6 := HH7.out.free 6
                rw [HN0.out]
                clear hb7 hlt6
                go_wp2
                go_ret
                exact ⟨by rw [HY.out]; show Ending.returned (Value.bool (decide ((T.length : Int) ≤ 9))) = _; rw [decide_eq_false (by omega)]; rfl, HB7.out.setCell (Nat.le_refl _) _, fun h' e => by rw [HY.out] at e; cases e⟩
          · rw [decide_eq_false c2] at q2
            change (t == [99, 111, 110, 116, 101, 110, 116, 45, 108, 101, 110, 103, 116, 104]) = false at q2
            by_cases c3 : Z = M.encW
            · rw [decide_eq_true c3] at q3
              change (t == [116, 114, 97, 110, 115, 102, 101, 114, 45, 101, 110, 99, 111, 100, 105, 110, 103]) = true at q3
              have HX := Lib.hid (show R = none by rw [HR.out]; unfold M.field; rw [if_neg c1, if_neg c2, if_pos c3])
              clear q4 q5 c1 c2 c3 HR
              go_enter Tryz.func35, Tryz.ntmps35
              go_wp2_with fail
              refine HCUT.out.mono ?_
              rintro e w1 ⟨rfl, hb1⟩
              have HB1 := Lib.hid hb1
              clear hb1
              go_wp2_with fail
              refine (HTR.out w1).mono ?_
              rintro e w2 ⟨rfl, hb2⟩
              have HB2 := Lib.hid (HB1.out.trans (hb2.mono HB1.out.size))
              clear hb2
              go_wp2_with fail
              refine (HNM.out w2).mono ?_
              rintro e w3 ⟨rfl, hb3⟩
              have HB3 := Lib.hid (HB2.out.trans (hb3.mono HB2.out.size))
              clear hb3
              go_wp2_with fail
              refine (HVA.out w3).mono ?_
              rintro e w4 ⟨rfl, hb4⟩
              have HB4 := Lib.hid (HB3.out.trans (hb4.mono HB3.out.size))
              clear hb4
              go_wp2_with fail
              refine (HSN.out w4 (HV.out.below HB4.out)).mono ?_
              rintro e w5 ⟨rfl, hb5⟩
              have HB5 := Lib.hid (HB4.out.trans (hb5.mono HB4.out.size))
              clear hb5
              go_wp2
              go_ret
              exact ⟨by rw [HX.out]; rfl, HB5.out.mono hg0, fun h' e => by rw [HX.out] at e; cases e⟩
            · rw [decide_eq_false c3] at q3
              change (t == [116, 114, 97, 110, 115, 102, 101, 114, 45, 101, 110, 99, 111, 100, 105, 110, 103]) = false at q3
              by_cases c4 : Z = M.conW
              · rw [decide_eq_true c4] at q4
                change (t == [99, 111, 110, 110, 101, 99, 116, 105, 111, 110]) = true at q4
                have HX := Lib.hid (show R = some { h with close := h.close || decide (Zv = M.closeW) } by rw [HR.out]; unfold M.field; rw [if_neg c1, if_neg c2, if_neg c3, if_pos c4, hZv])
                change (tv == [99, 108, 111, 115, 101]) = decide (Zv = M.closeW) at q5
                clear c1 c2 c3 c4 HR hZv
                generalize decide (Zv = M.closeW) = bc at *
                cases hcl : h.close with
                | true =>
                  clear q5
                  go_enter Tryz.func35, Tryz.ntmps35
                  go_wp2_with fail
                  refine HCUT.out.mono ?_
                  rintro e w1 ⟨rfl, hb1⟩
                  have HB1 := Lib.hid hb1
                  clear hb1
                  go_wp2_with fail
                  refine (HTR.out w1).mono ?_
                  rintro e w2 ⟨rfl, hb2⟩
                  have HB2 := Lib.hid (HB1.out.trans (hb2.mono HB1.out.size))
                  clear hb2
                  go_wp2_with fail
                  refine (HNM.out w2).mono ?_
                  rintro e w3 ⟨rfl, hb3⟩
                  have HB3 := Lib.hid (HB2.out.trans (hb3.mono HB2.out.size))
                  clear hb3
                  go_wp2_with fail
                  refine (HVA.out w3).mono ?_
                  rintro e w4 ⟨rfl, hb4⟩
                  have HB4 := Lib.hid (HB3.out.trans (hb4.mono HB3.out.size))
                  clear hb4
                  go_wp2_with fail
                  refine (HSN.out w4 (HV.out.below HB4.out)).mono ?_
                  rintro e w5 ⟨rfl, hb5⟩
                  have HB5 := Lib.hid (HB4.out.trans (hb5.mono HB4.out.size))
                  clear hb5
                  have HH5 := Lib.hid (HH.out.on HB5.out)
                  have k3 := HH5.out.c3
                  rw [hcl] at k3
                  have f3 := HH5.out.free 3
                  go_wp2
                  go_ret
                  exact ⟨by rw [HX.out]; rfl, (HB5.out.mono hg0).setCell (Nat.le_refl _) _, fun h' e => by rw [HX.out] at e; injection e with e; subst e; rw [hcl]; exact HH5.out.s3 true⟩
                | false =>
                  go_enter Tryz.func35, Tryz.ntmps35
                  go_wp2_with fail
                  refine HCUT.out.mono ?_
                  rintro e w1 ⟨rfl, hb1⟩
                  have HB1 := Lib.hid hb1
                  clear hb1
                  go_wp2_with fail
                  refine (HTR.out w1).mono ?_
                  rintro e w2 ⟨rfl, hb2⟩
                  have HB2 := Lib.hid (HB1.out.trans (hb2.mono HB1.out.size))
                  clear hb2
                  go_wp2_with fail
                  refine (HNM.out w2).mono ?_
                  rintro e w3 ⟨rfl, hb3⟩
                  have HB3 := Lib.hid (HB2.out.trans (hb3.mono HB2.out.size))
                  clear hb3
                  go_wp2_with fail
                  refine (HVA.out w3).mono ?_
                  rintro e w4 ⟨rfl, hb4⟩
                  have HB4 := Lib.hid (HB3.out.trans (hb4.mono HB3.out.size))
                  clear hb4
                  go_wp2_with fail
                  refine (HSN.out w4 (HV.out.below HB4.out)).mono ?_
                  rintro e w5 ⟨rfl, hb5⟩
                  have HB5 := Lib.hid (HB4.out.trans (hb5.mono HB4.out.size))
                  clear hb5
                  have HH5 := Lib.hid (HH.out.on HB5.out)
                  have k3 := HH5.out.c3
                  rw [hcl] at k3
                  go_wp2_with fail
                  refine (HST2.out _ (HV6 _ (HB5.out.mono hg0))).mono ?_
                  rintro e w6 ⟨rfl, hb6⟩
                  have HH6 := Lib.hid (HH5.out.on hb6)
                  have HB6 := Lib.hid (HB5.out.trans (hb6.mono HB5.out.size))
                  have f3 := HH6.out.free 3
                  have k3b := HH6.out.c3
                  clear hb6
                  go_wp2
                  go_ret
                  exact ⟨by rw [HX.out]; rfl, (HB6.out.mono hg0).setCell (Nat.le_refl _) _, fun h' e => by rw [HX.out] at e; injection e with e; subst e; rw [hcl, Bool.false_or]; exact HH6.out.s3 bc⟩
              · rw [decide_eq_false c4] at q4
                change (t == [99, 111, 110, 110, 101, 99, 116, 105, 111, 110]) = false at q4
                have HX := Lib.hid (show R = some h by rw [HR.out]; unfold M.field; rw [if_neg c1, if_neg c2, if_neg c3, if_neg c4])
                clear q5 c1 c2 c3 c4 HR
                go_enter Tryz.func35, Tryz.ntmps35
                go_wp2_with fail
                refine HCUT.out.mono ?_
                rintro e w1 ⟨rfl, hb1⟩
                have HB1 := Lib.hid hb1
                clear hb1
                go_wp2_with fail
                refine (HTR.out w1).mono ?_
                rintro e w2 ⟨rfl, hb2⟩
                have HB2 := Lib.hid (HB1.out.trans (hb2.mono HB1.out.size))
                clear hb2
                go_wp2_with fail
                refine (HNM.out w2).mono ?_
                rintro e w3 ⟨rfl, hb3⟩
                have HB3 := Lib.hid (HB2.out.trans (hb3.mono HB2.out.size))
                clear hb3
                go_wp2_with fail
                refine (HVA.out w3).mono ?_
                rintro e w4 ⟨rfl, hb4⟩
                have HB4 := Lib.hid (HB3.out.trans (hb4.mono HB3.out.size))
                clear hb4
                go_wp2_with fail
                refine (HSN.out w4 (HV.out.below HB4.out)).mono ?_
                rintro e w5 ⟨rfl, hb5⟩
                have HB5 := Lib.hid (HB4.out.trans (hb5.mono HB4.out.size))
                clear hb5
                go_wp2
                go_ret
                exact ⟨by rw [HX.out]; rfl, HB5.out.mono hg0, fun h' e => by rw [HX.out] at e; injection e with e; subst e; exact HH.out.on HB5.out⟩
  · rw [if_neg hf] at hcut
    have HR := Lib.hid (show M.lineStep h (bl s) = none by unfold M.lineStep; rw [if_pos (by omega)])
    generalize M.lineStep h (bl s) = R at *
    simp only at hcut
    have HCUT := Lib.hid hcut
    have HTR := Lib.hid (fun w1 => trim_any [] w1 (by simp))
    clear hcut hf hfle
    go_enter Tryz.func35, Tryz.ntmps35
    go_wp2_with fail
    refine HCUT.out.mono ?_
    rintro e w1 ⟨rfl, hb1⟩
    have HB1 := Lib.hid hb1
    clear hb1
    go_wp2_with fail
    refine (HTR.out w1).mono ?_
    rintro e w2 ⟨rfl, hb2⟩
    have HB2 := Lib.hid (HB1.out.trans (hb2.mono HB1.out.size))
    clear hb2
    go_wp2
    go_ret
    exact ⟨by rw [HR.out]; rfl, HB2.out.mono hg0, fun h' e => by rw [HR.out] at e; cases e⟩
end Go.Proofs.YtdbinhbmhkbfeaaGreatDoor
