/-
  The laws MatchOrder and MatchTimes, by the contracts.
-/
import Derived.Test.YtkchmbcaihknkaaDoorMatchG
namespace Go.Proofs.YtkchmbcaihknkaaDoor
open Go.RowKit Mem
set_option linter.unusedVariables false
set_option maxRecDepth 100000

set_option maxHeartbeats 4000000 in
theorem matchTimes_any (d : M.D) (n : Int) (w : World) (hT : Tabs w) : Calls Tryd.prog 8 #[dval d, .int .i64 n] w (SaysB true w) := by
  have HD0 := Lib.hid (DocIn.new w d)
  have HB0 := Lib.hid ((Below.refl w.heap.size w).alloc (Nat.le_refl _) (.cells #[.string ⟨d.id.toArray⟩, .int .i64 d.time, .string ⟨d.text.toArray⟩] 26))
  have HT := Lib.hid (hT.alloc (.cells #[.string ⟨d.id.toArray⟩, .int .i64 d.time, .string ⟨d.text.toArray⟩] 26))
  have HA := Lib.hid (fun W => time_any 6 6 n d W (.inl rfl) rfl (b := decide (n < d.time)) Q.has6)
  have HZ := Lib.hid (fun W => time_any 7 7 n d W (.inr rfl) rfl (b := decide (d.time < n)) Q.has7)
  obtain ⟨id, tm, text⟩ := d
  unfold dval at HA HZ ⊢
  simp only at HA HZ HD0 HB0 HT ⊢
  clear hT
  rcases Int.lt_trichotomy n tm with h | h | h
  · have h' : ¬ tm < n := by omega
    rw [show decide (n < tm) = true from by simp; try omega] at HA
    rw [show decide (tm < n) = false from by simp; try omega] at HZ
    have q1 : (tm != n) = true := by simp; try omega
    have q2 : decide (n < tm) = true := by simp; try omega
    go_enter Tryd.func8, Tryd.ntmps8
    go_wp2_with fail
    refine (awake7_any _ HT.out).mono ?_
    rintro e w1 ⟨rfl, hb1⟩
    have HD1 := Lib.hid (HD0.out.on hb1)
    have HB1 := Lib.hid (HB0.out.trans (hb1.mono HB0.out.size))
    obtain ⟨c0, c1, c2⟩ := HD1.out.cells
    clear hb1 HD0 HB0 HT
    go_wp2_with fail
    refine (HA.out w1).mono ?_
    rintro e w2 ⟨rfl, hb2⟩
    have HD2 := Lib.hid (HD1.out.on hb2)
    have HB2 := Lib.hid (HB1.out.trans (hb2.mono HB1.out.size))
    clear hb2 HD1 HB1 c0 c1 c2
    obtain ⟨c0, c1, c2⟩ := HD2.out.cells
    go_wp2_with fail
    refine (HZ.out w2).mono ?_
    rintro e w3 ⟨rfl, hb3⟩
    have HD3 := Lib.hid (HD2.out.on hb3)
    have HB3 := Lib.hid (HB2.out.trans (hb3.mono HB2.out.size))
    clear hb3 HD2 HB2 c0 c1 c2
    obtain ⟨c0, c1, c2⟩ := HD3.out.cells
    go_wp2
    go_ret
    exact ⟨rfl, HB3.out⟩
  · subst h
    rw [show decide (n < n) = false from by simp; try omega] at HA
    rw [show decide (n < n) = false from by simp; try omega] at HZ
    have q1 : (n != n) = false := by simp; try omega
    have q2 : decide (n < n) = false := by simp; try omega
    go_enter Tryd.func8, Tryd.ntmps8
    go_wp2_with fail
    refine (awake7_any _ HT.out).mono ?_
    rintro e w1 ⟨rfl, hb1⟩
    have HD1 := Lib.hid (HD0.out.on hb1)
    have HB1 := Lib.hid (HB0.out.trans (hb1.mono HB0.out.size))
    obtain ⟨c0, c1, c2⟩ := HD1.out.cells
    clear hb1 HD0 HB0 HT
    go_wp2_with fail
    refine (HA.out w1).mono ?_
    rintro e w2 ⟨rfl, hb2⟩
    have HD2 := Lib.hid (HD1.out.on hb2)
    have HB2 := Lib.hid (HB1.out.trans (hb2.mono HB1.out.size))
    clear hb2 HD1 HB1 c0 c1 c2
    obtain ⟨c0, c1, c2⟩ := HD2.out.cells
    go_wp2_with fail
    refine (HZ.out w2).mono ?_
    rintro e w3 ⟨rfl, hb3⟩
    have HD3 := Lib.hid (HD2.out.on hb3)
    have HB3 := Lib.hid (HB2.out.trans (hb3.mono HB2.out.size))
    clear hb3 HD2 HB2 c0 c1 c2
    obtain ⟨c0, c1, c2⟩ := HD3.out.cells
    go_wp2
    go_ret
    exact ⟨rfl, HB3.out⟩
  · have h' : ¬ n < tm := by omega
    rw [show decide (n < tm) = false from by simp; try omega] at HA
    rw [show decide (tm < n) = true from by simp; try omega] at HZ
    have q1 : (tm != n) = true := by simp; try omega
    have q2 : decide (n < tm) = false := by simp; try omega
    go_enter Tryd.func8, Tryd.ntmps8
    go_wp2_with fail
    refine (awake7_any _ HT.out).mono ?_
    rintro e w1 ⟨rfl, hb1⟩
    have HD1 := Lib.hid (HD0.out.on hb1)
    have HB1 := Lib.hid (HB0.out.trans (hb1.mono HB0.out.size))
    obtain ⟨c0, c1, c2⟩ := HD1.out.cells
    clear hb1 HD0 HB0 HT
    go_wp2_with fail
    refine (HA.out w1).mono ?_
    rintro e w2 ⟨rfl, hb2⟩
    have HD2 := Lib.hid (HD1.out.on hb2)
    have HB2 := Lib.hid (HB1.out.trans (hb2.mono HB1.out.size))
    clear hb2 HD1 HB1 c0 c1 c2
    obtain ⟨c0, c1, c2⟩ := HD2.out.cells
    go_wp2_with fail
    refine (HZ.out w2).mono ?_
    rintro e w3 ⟨rfl, hb3⟩
    have HD3 := Lib.hid (HD2.out.on hb3)
    have HB3 := Lib.hid (HB2.out.trans (hb3.mono HB2.out.size))
    clear hb3 HD2 HB2 c0 c1 c2
    obtain ⟨c0, c1, c2⟩ := HD3.out.cells
    go_wp2
    go_ret
    exact ⟨rfl, HB3.out⟩

end Go.Proofs.YtkchmbcaihknkaaDoor
