/-
  What (*http.head).first does, by a contract.
-/
import Derived.Test.YtdbinhbmhkbfeaaGreatDoorHttpD
import Derived.Deep.RegionHeld3
import Derived.Deep.RegionLaw
namespace Go.Proofs.YtdbinhbmhkbfeaaGreatDoor
open Go.RowKit Mem
set_option linter.unusedVariables false
set_option maxRecDepth 100000

/-- a call of a Go function, as a step of a region that draws its order -/
theorem step_call {P : Program} {ops : Array Oper} {o : Oper} {a : Act} {w : World} {K : Act → World → Prop} {Q : Exit → Act → World → Prop} {E : Prop} (hgd : o.guard = none) (f : FuncId) (args : Array Value) (hrun : (execOp a.eval o).run P w = .ok (.enter f args) w)
    {X : Type} (val : X → Value) (S : X → World → Prop) (hc : Calls P f args w (fun e w' => ∃ x, e = .returned (val x) ∧ S x w')) (h : ∀ x w', S x w' → K (a.put o.dst (val x)) w') :
    if Region.wanted o (yielded ops a.tmps) = true then Oper.wp P o a w K Q else E := by
  have hw : Region.wanted o (yielded ops a.tmps) = true := by simp [Region.wanted, hgd]
  rw [if_pos hw]
  unfold Oper.wp
  rw [hrun, Oper.upon_enter]
  refine hc.mono fun e w'' hh => ?_
  obtain ⟨x, rfl, hS⟩ := hh
  exact h x _ hS

theorem undrew_below {w w' : World} (h : Below w.drew.heap.size w.drew w') : Below w.heap.size w w' := ⟨h.os, h.tape, h.output, h.size, h.block⟩
def FirstDid (g : Nat) (o : Option (List UInt8 × List UInt8)) (h : M.Hd) (w : World) (e : Ending) (w' : World) : Prop :=
  e = .returned (.bool o.isSome) ∧ Below g w w' ∧ ∀ m pa, o = some (m, pa) → HdIn w' g m pa h

abbrev blank : ByteArray := ⟨#[32]⟩
theorem indexB_blank (s : ByteArray) : Lib.indexB s blank = if M.fi 32 (bl s) < (bl s).length then ((M.fi 32 (bl s) : Nat) : Int) else -1 := M.index_fi (bl s) 32
theorem count_none {s : ByteArray} (h : ¬ M.fi 32 (bl s) < (bl s).length) : Lib.countB s blank = 0 := Lib.countB_miss s blank (by rw [indexB_blank, if_neg h])
theorem count_some {s : ByteArray} (h : M.fi 32 (bl s) < (bl s).length) : Lib.countB s blank = 1 + Lib.countB (s.extract (M.fi 32 (bl s) + 1) s.size) blank := Lib.countB_hit s blank _ (by decide) (by rw [indexB_blank, if_pos h])
theorem split_some {s : ByteArray} {k : Nat} (h : M.fi 32 (bl s) < (bl s).length) : Lib.splitB blank 0 (k + 1) s = s.extract 0 (M.fi 32 (bl s)) :: Lib.splitB blank 0 k (s.extract (M.fi 32 (bl s) + 1) s.size) := Lib.splitB_hit blank 0 k s _ (by rw [indexB_blank, if_pos h])
theorem clone_at (l : List UInt8) (w : World) (hs : l.length ≤ 281474976710656) : Calls Tryz.prog 21 #[.string ⟨l.toArray⟩] w fun e w' => ∃ _ : Unit, e = .returned (.string ⟨l.toArray⟩) ∧ Below w.heap.size w w' :=
  (clone_any ⟨l.toArray⟩ w (by rw [size_mk]; exact hs)).mono fun e w' ⟨h1, h2⟩ => ⟨(), h1, h2⟩
theorem isPath_at (l : List UInt8) (w : World) : Calls Tryz.prog 45 #[.string ⟨l.toArray⟩] w (SaysB (M.isPath l) w) := by have := isPath_any ⟨l.toArray⟩ w; rwa [bl_mk] at this

/-- how a first line falls into parts -/
theorem parts_of (s : ByteArray) (w : World) (hs : s.size ≤ 1048576) (hV : Vars w) :
    (M.first (bl s) = none ∧ ∃ (n : Nat) (vs : Array Value), ((n : Int) + 1 != 3) = true ∧ Calls Tryz.prog 43 #[.string s, .string blank] w fun e w' => e = .returned (.slice (some ⟨w.heap.size, 0, none⟩) (n + 1) (n + 1)) ∧ w' = w.alloc (.cells vs 9)) ∨
    (∃ a b c : List UInt8, a.length ≤ 1048576 ∧ b.length ≤ 1048576 ∧ M.first (bl s) = (if M.isName a = true ∧ M.isPath b = true ∧ c = M.httpV then some (a, b) else none) ∧
      Calls Tryz.prog 43 #[.string s, .string blank] w fun e w' => e = .returned (.slice (some ⟨w.heap.size, 0, none⟩) 3 3) ∧ w' = w.alloc (.cells #[.string ⟨a.toArray⟩, .string ⟨b.toArray⟩, .string ⟨c.toArray⟩] 9)) := by
  obtain ⟨mx, hm⟩ := hV.max
  have hsp := Tryz.strings_Split s blank mx w (by omega) hm (by decide)
  have hln : (bl s).length = s.size := bl_len s
  by_cases h1 : M.fi 32 (bl s) < (bl s).length
  · obtain ⟨i, hi⟩ : ∃ i, M.fi 32 (bl s) = i := ⟨_, rfl⟩
    obtain ⟨s2, hs2⟩ : ∃ s2, s.extract (i + 1) s.size = s2 := ⟨_, rfl⟩
    have hb2 : bl s2 = (bl s).drop (i + 1) := by rw [← hs2, bl_from]
    have hc1 := count_some h1
    rw [hi, hs2] at hc1
    by_cases h2 : M.fi 32 (bl s2) < (bl s2).length
    · obtain ⟨j, hj⟩ : ∃ j, M.fi 32 (bl s2) = j := ⟨_, rfl⟩
      obtain ⟨s3, hs3⟩ : ∃ s3, s2.extract (j + 1) s2.size = s3 := ⟨_, rfl⟩
      have hb3 : bl s3 = (bl s2).drop (j + 1) := by rw [← hs3, bl_from]
      have hc2 := count_some h2
      rw [hj, hs3] at hc2
      have hfirst : M.first (bl s) = if M.isName ((bl s).take i) = true ∧ M.isPath ((bl s2).take j) = true ∧ bl s3 = M.httpV then some ((bl s).take i, (bl s2).take j) else none := by
        unfold M.first
        rw [hi, ← hb2, hj, ← hb3, if_neg (by omega), if_neg (by omega)]
      by_cases h3 : M.fi 32 (bl s3) < (bl s3).length
      · have hc3 := count_some h3
        refine .inl ⟨?_, Lib.countB s blank, _, ?_, hsp⟩
        · rw [hfirst, if_neg]
          rintro ⟨_, _, e⟩
          rw [e] at h3
          exact absurd h3 (by decide)
        · rw [hc1, hc2, hc3, bne_iff_ne]; simp only [Int.natCast_add]; omega
      · have hc3 := count_none h3
        have hcc : Lib.countB s blank = 2 := by rw [hc1, hc2, hc3]
        refine .inr ⟨(bl s).take i, (bl s2).take j, bl s3, by simp; omega, ?_, hfirst, ?_⟩
        · rw [hb2]; simp; omega
        · rw [hcc] at hsp
          have e1 : Lib.splitB blank 0 2 s = [s.extract 0 i, s2.extract 0 j, s3] := by
            have q1 := split_some (k := 1) h1
            have q2 := split_some (k := 0) h2
            rw [hi, hs2] at q1
            rw [hj, hs3] at q2
            rw [q1, q2, Lib.splitB_zero]
          rw [e1] at hsp
          have f1 : s.extract 0 i = ⟨((bl s).take i).toArray⟩ := by rw [← mk_bl (s.extract 0 i), bl_cut]; simp
          have f2 : s2.extract 0 j = ⟨((bl s2).take j).toArray⟩ := by rw [← mk_bl (s2.extract 0 j), bl_cut]; simp
          have f3 : s3 = ⟨(bl s3).toArray⟩ := (mk_bl s3).symm
          rw [f1, f2, f3] at hsp
          simpa using hsp
    · have hc2 := count_none h2
      refine .inl ⟨?_, Lib.countB s blank, _, by rw [hc1, hc2]; rfl, hsp⟩
      unfold M.first
      rw [hi, ← hb2, if_neg (by omega), if_pos (by omega)]
  · refine .inl ⟨?_, Lib.countB s blank, _, by rw [count_none h1]; rfl, hsp⟩
    unfold M.first
    rw [if_pos (by omega)]

set_option maxHeartbeats 4000000 in
theorem first_any (s : ByteArray) (g : Nat) (h : M.Hd) (w : World) (hs : s.size ≤ 1048576) (hH : HdIn w g [] [] h) (hV : Vars w) :
    Calls Tryz.prog 34 #[.pointer (some ⟨g, 0, none⟩), .string s] w (FirstDid g (M.first (bl s)) h w) := by
  have hp := parts_of s w hs hV
  have HH := Lib.hid hH
  have hg : g < w.heap.size := hH.lt
  have hg0 : g ≤ w.heap.size := Nat.le_of_lt hg
  generalize M.first (bl s) = R at *
  clear hV hH
  rcases hp with ⟨hR, n, vs, hn, hc⟩ | ⟨a, b, c, ha, hb, hR, hc⟩
  · have HC := Lib.hid hc
    have HR := Lib.hid hR
    clear hc hR
    go_enter Tryz.func34, Tryz.ntmps34
    go_wp2_with fail
    refine HC.out.mono ?_
    rintro e w1 ⟨rfl, rfl⟩
    go_wp2
    go_ret
    exact ⟨by rw [HR.out]; rfl, ((Below.refl _ w).alloc (Nat.le_refl _) _).mono hg0, fun m pa e => by rw [HR.out] at e; cases e⟩
  · have HC := Lib.hid hc
    have HNM := Lib.hid (fun w1 => isName_at a w1)
    have HPA := Lib.hid (fun w1 => isPath_at b w1)
    have HK1 := Lib.hid (fun w1 => clone_at a w1 (by omega))
    have HK2 := Lib.hid (fun w1 => clone_at b w1 (by omega))
    have HR := Lib.hid hR
    have hq : (c == [72, 84, 84, 80, 47, 49, 46, 49]) = decide (c = M.httpV) := by rw [Bool.eq_iff_iff, beq_iff_eq, decide_eq_true_eq]; rfl
    have hb0 : Below w.heap.size w (w.alloc (.cells #[.string ⟨a.toArray⟩, .string ⟨b.toArray⟩, .string ⟨c.toArray⟩] 9)) := (Below.refl _ w).alloc (Nat.le_refl _) _
    have hB := heap_alloc_new w (.cells #[.string ⟨a.toArray⟩, .string ⟨b.toArray⟩, .string ⟨c.toArray⟩] 9)
    clear hc hR
    have hsz : w.heap.size < (w.alloc (.cells #[.string ⟨a.toArray⟩, .string ⟨b.toArray⟩, .string ⟨c.toArray⟩] 9)).heap.size := by simp
    have HW0 := Lib.hid (show ∃ W, W = w.alloc (.cells #[.string ⟨a.toArray⟩, .string ⟨b.toArray⟩, .string ⟨c.toArray⟩] 9) from ⟨_, rfl⟩)
    generalize hA1 : M.isName a = bn at *
    generalize hA2 : M.isPath b = bp at *
    clear hA1 hA2
    cases bn with
    | false =>
      have HR2 := Lib.hid (show R = none by rw [HR.out]; simp)
      go_enter Tryz.func34, Tryz.ntmps34
      go_wp2_with fail
      refine HC.out.mono ?_
      rintro e w1 ⟨rfl, hw1⟩
      rw [← hw1] at hb0 hB hsz
      clear hw1
      have c0 := (cellAt 0 hB).trans (show _ = some (Value.string ⟨a.toArray⟩) from rfl)
      have HB1 := Lib.hid hb0
      clear hb0
      go_wp2_with fail
      refine (HNM.out w1).mono ?_
      rintro e w2 ⟨rfl, hb2⟩
      have HB2 := Lib.hid (HB1.out.trans (hb2.mono HB1.out.size))
      clear hb2
      go_wp2
      go_ret
      exact ⟨by rw [HR2.out]; rfl, HB2.out.mono hg0, fun m pa e => by rw [HR2.out] at e; cases e⟩
    | true =>
      cases bp with
      | false =>
        have HR2 := Lib.hid (show R = none by rw [HR.out]; simp)
        go_enter Tryz.func34, Tryz.ntmps34
        go_wp2_with fail
        refine HC.out.mono ?_
        rintro e w1 ⟨rfl, hw1⟩
        rw [← hw1] at hb0 hB hsz
        clear hw1
        have c0 := (cellAt 0 hB).trans (show _ = some (Value.string ⟨a.toArray⟩) from rfl)
        have HB1 := Lib.hid hb0
        clear hb0
        go_wp2_with fail
        refine (HNM.out w1).mono ?_
        rintro e w2 ⟨rfl, hb2⟩
        have HB2 := Lib.hid (HB1.out.trans (hb2.mono HB1.out.size))
        have hB2 := (hb2.block _ hsz).trans hB
        have d1 := (cellAt 1 hB2).trans (show _ = some (Value.string ⟨b.toArray⟩) from rfl)
        clear hb2
        go_wp2_with fail
        refine (HPA.out w2).mono ?_
        rintro e w3 ⟨rfl, hb3⟩
        have HB3 := Lib.hid (HB2.out.trans (hb3.mono HB2.out.size))
        clear hb3
        go_wp2
        go_ret
        exact ⟨by rw [HR2.out]; rfl, HB3.out.mono hg0, fun m pa e => by rw [HR2.out] at e; cases e⟩
      | true =>
        by_cases hcv : c = M.httpV
        · have HR2 := Lib.hid (show R = some (a, b) by rw [HR.out]; simp [hcv])
          rw [decide_eq_true hcv] at hq
          clear hcv
          go_enter Tryz.func34, Tryz.ntmps34
          go_wp2_with fail
          refine HC.out.mono ?_
          rintro e w1 ⟨rfl, hw1⟩
          rw [← hw1] at hb0 hB hsz
          clear hw1
          have c0 := (cellAt 0 hB).trans (show _ = some (Value.string ⟨a.toArray⟩) from rfl)
          have HB1 := Lib.hid hb0
          clear hb0
          go_wp2_with fail
          refine (HNM.out w1).mono ?_
          rintro e w2 ⟨rfl, hb2⟩
          have HB2 := Lib.hid (HB1.out.trans (hb2.mono HB1.out.size))
          have hB2 := (hb2.block _ hsz).trans hB
          have hsz2 : w.heap.size < w2.heap.size := Nat.lt_of_lt_of_le hsz hb2.size
          have d1 := (cellAt 1 hB2).trans (show _ = some (Value.string ⟨b.toArray⟩) from rfl)
          clear hb2
          go_wp2_with fail
          refine (HPA.out w2).mono ?_
          rintro e w3 ⟨rfl, hb3⟩
          have HB3 := Lib.hid (HB2.out.trans (hb3.mono HB2.out.size))
          have hB3 := (hb3.block _ hsz2).trans hB2
          have hsz3 : w.heap.size < w3.heap.size := Nat.lt_of_lt_of_le hsz2 hb3.size
          have e0 := (cellAt 0 hB3).trans (show _ = some (Value.string ⟨a.toArray⟩) from rfl)
          have e1 := (cellAt 1 hB3).trans (show _ = some (Value.string ⟨b.toArray⟩) from rfl)
          have e2 := (cellAt 2 hB3).trans (show _ = some (Value.string ⟨c.toArray⟩) from rfl)
          clear hb3
          have HH3 := Lib.hid (HH.out.on HB3.out)
          have hg3 : g < w3.heap.size := HH3.out.lt
          have r0 := (cellAt 0 HH3.out).trans (show _ = some (Value.string ⟨([] : List UInt8).toArray⟩) from rfl)
          have r1 := (cellAt 1 HH3.out).trans (show _ = some (Value.string ⟨([] : List UInt8).toArray⟩) from rfl)
          have q0 := HH3.out.free 0
          have q1 := HH3.out.free 1
          go_wp2_with fail
          go_region_law (first
            | (go_simp; go_at_call 21; refine (HK1.out w3.drew).mono ?_; rintro e w4 ⟨_, rfl, hb4'⟩
               have hb4 := undrew_below hb4'
               have hB4 := (hb4.block _ hsz3).trans hB3
               have hsz4 : w.heap.size < w4.heap.size := Nat.lt_of_lt_of_le hsz3 hb4.size
               have s1 := (cellAt 1 hB4).trans (show _ = some (Value.string ⟨b.toArray⟩) from rfl)
               have HB4 := Lib.hid (HB3.out.trans (hb4.mono HB3.out.size))
               clear hb4 hb4')
            | (go_simp; go_at_call 21; refine (HK2.out w4).mono ?_; rintro e w5 ⟨_, rfl, hb5⟩
               have HB5 := Lib.hid (HB4.out.trans (hb5.mono HB4.out.size))
               have hH5 := HH.out.on HB5.out
               have t0 := (cellAt 0 hH5).trans (show _ = some (Value.string ⟨([] : List UInt8).toArray⟩) from rfl)
               have t1 := (cellAt 1 hH5).trans (show _ = some (Value.string ⟨([] : List UInt8).toArray⟩) from rfl)
               have p0 := hH5.free 0
               have p1 := hH5.free 1
               have HH5 := Lib.hid hH5
               clear hb5 hH5))
          all_goals
            go_wp2
            go_ret
            refine ⟨by rw [HR2.out]; rfl, ((HB5.out.mono hg0).setCell (Nat.le_refl _) _).setCell (Nat.le_refl _) _, fun m pa e => ?_⟩
            rw [HR2.out] at e
            injection e with e
            injection e with e e'
            subst e e'
            exact (heapSet 1 _ (heapSet 0 _ HH5.out)).trans rfl
        · have HR2 := Lib.hid (show R = none by rw [HR.out]; simp [hcv])
          rw [decide_eq_false hcv] at hq
          clear hcv
          go_enter Tryz.func34, Tryz.ntmps34
          go_wp2_with fail
          refine HC.out.mono ?_
          rintro e w1 ⟨rfl, hw1⟩
          rw [← hw1] at hb0 hB hsz
          clear hw1
          have c0 := (cellAt 0 hB).trans (show _ = some (Value.string ⟨a.toArray⟩) from rfl)
          have HB1 := Lib.hid hb0
          clear hb0
          go_wp2_with fail
          refine (HNM.out w1).mono ?_
          rintro e w2 ⟨rfl, hb2⟩
          have HB2 := Lib.hid (HB1.out.trans (hb2.mono HB1.out.size))
          have hB2 := (hb2.block _ hsz).trans hB
          have hsz2 : w.heap.size < w2.heap.size := Nat.lt_of_lt_of_le hsz hb2.size
          have d1 := (cellAt 1 hB2).trans (show _ = some (Value.string ⟨b.toArray⟩) from rfl)
          clear hb2
          go_wp2_with fail
          refine (HPA.out w2).mono ?_
          rintro e w3 ⟨rfl, hb3⟩
          have HB3 := Lib.hid (HB2.out.trans (hb3.mono HB2.out.size))
          have hB3 := (hb3.block _ hsz2).trans hB2
          have e2 := (cellAt 2 hB3).trans (show _ = some (Value.string ⟨c.toArray⟩) from rfl)
          clear hb3
          go_wp2
          go_ret
          exact ⟨by rw [HR2.out]; rfl, HB3.out.mono hg0, fun m pa e => by rw [HR2.out] at e; cases e⟩
end Go.Proofs.YtdbinhbmhkbfeaaGreatDoor
