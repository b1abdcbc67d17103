/-
  DiskPlays: any calls of a disk with any room: each answer, and what the disk tells of itself.
-/
import Derived.Test.YtglfbigklnaegaaRefQ
namespace Go.Proofs.Ytglfbigklnaegaa
open Go.RowKit Mem FM
set_option linter.unusedVariables false
set_option maxRecDepth 100000

set_option maxHeartbeats 1000000 in
theorem new_bad (room : Int) (w : World) (hr : room < 0 ∨ 67108864 < room) (h1 : -9223372036854775808 ≤ room) (h2 : room ≤ 9223372036854775807) :
    Calls Try.prog 6 #[.int .i64 room] w (fun e w' => e = .returned (.tuple #[.pointer none, .int .i64 1]) ∧ w' = w) := by
  rcases hr with hr | hr
  · go_enter Try.func6, Try.ntmps6
    go_wp2
    go_ret2
    exact ⟨rfl, rfl⟩
  · have h3 : ¬ room < 0 := by omega
    go_enter Try.func6, Try.ntmps6
    go_wp2
    go_ret2
    exact ⟨rfl, rfl⟩

/-- both disks, of one state, in the midst of a script; no file has the name that is asked for -/
def WalkF (w : World) (D X i : Nat) (wr : World) : Prop := ∃ F G s, Two w.heap.size wr F G D X s s ∧ s.ops ≤ i ∧ Named s ∧ Free nsf.data.toList s ∧ Below w.heap.size w wr
theorem eq_bytes (a b : ByteArray) : (a.toList == b.toList) = decide (a.data.toList = b.data.toList) := eq_names a b

set_option maxHeartbeats 8000000 in
theorem diskPlays_any (room : Int) (A : Option Addr) (n c : Nat) (xs : List ActD) (w : World) (h1 : -9223372036854775808 ≤ room) (h2 : room ≤ 9223372036854775807) (ra : RdActs w w.heap.size A n c xs) :
    Calls Try.prog 3 #[.int .i64 room, .slice A n c] w (Yes w) := by
  have RA := Lib.hid ra; have NA := Lib.hid ra.1
  have hc1 := ra.2.1; have hcm1 := ra.2.2.1
  clear ra
  by_cases hbad : room < 0 ∨ 67108864 < room
  · have HNB := Lib.hid (fun w => new_bad room w hbad h1 h2)
    rcases hbad with hbad | hbad
    · go_enter Try.func3, Try.ntmps3
      go_wp2_with fail
      refine (awake_any _).mono ?_
      rintro e w1 ⟨rfl, hb1⟩
      go_wp2_with fail
      refine (HNB.out _).mono ?_
      rintro e w2 ⟨rfl, rfl⟩
      go_wp2
      go_ret
      exact ⟨rfl, hb1⟩
    · have h3 : ¬ room < 0 := by omega
      go_enter Try.func3, Try.ntmps3
      go_wp2_with fail
      refine (awake_any _).mono ?_
      rintro e w1 ⟨rfl, hb1⟩
      go_wp2_with fail
      refine (HNB.out _).mono ?_
      rintro e w2 ⟨rfl, rfl⟩
      go_wp2
      go_ret
      exact ⟨rfl, hb1⟩
  · obtain ⟨rm, rfl⟩ : ∃ rm : Nat, room = (rm : Int) := ⟨room.toNat, by omega⟩
    have hrm : rm ≤ 67108864 := by omega
    clear hbad h1 h2
    go_enter Try.func3, Try.ntmps3
    go_wp2_with fail
    refine (awake_any _).mono ?_
    rintro e w1 ⟨rfl, hb1⟩
    go_wp2_with fail
    refine (new_any rm w1 hrm).mono ?_
    rintro e w2 ⟨D, F, rfl, hd, hF, hb2⟩
    have hb12 := hb1.trans (hb2.mono hb1.size)
    have HT0 := Lib.hid (Two.new (B0 := w.heap.size) hd (fun k hk => Nat.le_trans hb1.size (hF k hk)) hb12.size hrm)
    have HW0 := Lib.hid (show WalkF w D w2.heap.size 0 (w2.alloc (.cells #[.slice none 0 0, .int .i64 (rm : Int), .int .i64 0, .bool false, .int .i64 0] 31)) from ⟨F, _, St.new rm, HT0.out, by simp [St.new], fun f hf => by simp [St.new] at hf, fun f hf => by simp [St.new] at hf, hb12.alloc hb12.size _⟩)
    clear hd hF hb2 hb1 hb12 HT0
    go_wp2_with fail
    obtain ⟨X, hX⟩ : ∃ X, w2.heap.size = X := ⟨_, rfl⟩
    rw [hX] at HW0 ⊢
    generalize w2.alloc (.cells #[.slice none 0 0, .int .i64 (rm : Int), .int .i64 0, .bool false, .int .i64 0] 31) = w3 at *
    clear hX
    go_loopw [8] (fun p wr => ∃ i : Nat, p = .int .i64 i ∧ i ≤ n ∧ i ≤ 100 ∧ Hid (WalkF w D X i wr)) (fun p _ => n - (intOf p).toNat)
    case atStart => exact ⟨0, rfl, Nat.zero_le _, by omega, HW0⟩
    case round =>
      obtain ⟨i, rfl, hi, hi100, HW⟩ := hrel
      rename World => wr
      by_cases hlt : i < n ∧ i < 100
      · obtain ⟨hlt, hlt5⟩ := hlt
        have hxi : i < xs.length := by have := NA.out; omega
        obtain ⟨F9, G9, s, hT, hops, hnm, hfr, hb9⟩ := HW.out
        have RB := RA.out.below hb9
        obtain ⟨b, off, rfl, hbl, hcell⟩ := RB.2.2.2.2 (by omega)
        have k0 := hcell i hxi 0 (by omega); have k1 := hcell i hxi 1 (by omega); have k2 := hcell i hxi 2 (by omega)
        have k3 := hcell i hxi 3 (by omega); have k4 := hcell i hxi 4 (by omega); have k5 := hcell i hxi 5 (by omega)
        have hok := RB.2.2.2.1 xs[i] (List.getElem_mem hxi)
        have HDO := Lib.hid (do_any w.heap.size D X F9 G9 s xs[i] wr hT hok (by omega))
        have hg := stepD_goes s xs[i]
        have HST := Lib.hid (show (stepD s xs[i]).ops ≤ i + 1 ∧ Named (stepD s xs[i]) from ⟨by have := hg.2.1; omega, hnm.step _⟩)
        have HFR := Lib.hid (show xs[i].name.data.toList ≠ nsf.data.toList → xs[i].to.data.toList ≠ nsf.data.toList → Free nsf.data.toList (stepD s xs[i]) from fun h1 h2 => hfr.step _ h1 h2)
        have HB9 := Lib.hid hb9
        have hbw : b < wr.heap.size := by have := hb9.size; omega
        clear hb9 RB hcell hok hT hnm hg HW hfr
        generalize stepD s xs[i] = s' at *
        generalize xs[i] = x at *
        simp only [ActD.cells] at k0 k1 k2 k3 k4 k5
        rw [Nat.add_zero] at k0
        simp only [List.getElem?_cons_zero, List.getElem?_cons_succ] at k0 k1 k2 k3 k4 k5
        by_cases hn1 : x.name.data.toList = nsf.data.toList
        · have hqp : x.name.toList = [110, 111, 45, 115, 117, 99, 104, 45, 102, 105, 108, 101] := by rw [Lib.toList_data]; exact hn1
          have hq : (x.name.toList == ([110, 111, 45, 115, 117, 99, 104, 45, 102, 105, 108, 101] : List UInt8)) = true := by rw [hqp]; rfl
          clear HDO HFR
          go_wp2
          go_ret
          exact ⟨rfl, HB9.out⟩
        · have hqp : ¬ x.name.toList = [110, 111, 45, 115, 117, 99, 104, 45, 102, 105, 108, 101] := by rw [Lib.toList_data]; exact hn1
          have hq : (x.name.toList == ([110, 111, 45, 115, 117, 99, 104, 45, 102, 105, 108, 101] : List UInt8)) = false := by simpa using hqp
          by_cases hn2 : x.to.data.toList = nsf.data.toList
          · have hq2p : x.to.toList = [110, 111, 45, 115, 117, 99, 104, 45, 102, 105, 108, 101] := by rw [Lib.toList_data]; exact hn2
            have hq2 : (x.to.toList == ([110, 111, 45, 115, 117, 99, 104, 45, 102, 105, 108, 101] : List UInt8)) = true := by rw [hq2p]; rfl
            clear HDO HFR
            go_wp2
            go_ret
            exact ⟨rfl, HB9.out⟩
          · have hq2p : ¬ x.to.toList = [110, 111, 45, 115, 117, 99, 104, 45, 102, 105, 108, 101] := by rw [Lib.toList_data]; exact hn2
            have hq2 : (x.to.toList == ([110, 111, 45, 115, 117, 99, 104, 45, 102, 105, 108, 101] : List UInt8)) = false := by simpa using hq2p
            have HF2 := Lib.hid (HFR.out hn1 hn2)
            clear hn1 hn2 HFR
            go_wp2_with fail
            refine HDO.out.mono ?_
            rintro e w4 ⟨rfl, F4, G4, hT4, hb4⟩
            have HSA := Lib.hid (same_any w.heap.size D X F4 G4 s' w4 hT4 HST.out.2 HF2.out)
            have HT4 := Lib.hid hT4; have HB4 := Lib.hid (HB9.out.trans hb4)
            clear hT4 hb4 HDO HB9 k0 k1 k2 k3 k4 k5
            go_wp2_with fail
            refine HSA.out.mono ?_
            rintro e w5 ⟨rfl, hb5⟩
            have HWE := Lib.hid (show WalkF w D X (i + 1) w5 from ⟨F4, G4, s', HT4.out.below hb5, HST.out.1, HST.out.2, HF2.out, HB4.out.trans (hb5.mono HB4.out.size)⟩)
            clear hb5 HT4 HB4 HSA
            go_wp2
            go_roundw
            case rel => exact ⟨i + 1, by go_num, by omega, by omega, HWE⟩
            case measure => simp [intOf]; omega
      · obtain ⟨_, _, _, _, _, _, _, hb9⟩ := HW.out
        have HB9 := Lib.hid hb9
        clear hb9 HW
        by_cases h1 : i < n
        · have h2 : ¬ i < 100 := fun h => hlt ⟨h1, h⟩
          clear hlt
          go_wp2
          go_ret
          exact ⟨rfl, HB9.out⟩
        · clear hlt
          go_wp2
          go_ret
          exact ⟨rfl, HB9.out⟩
end Go.Proofs.Ytglfbigklnaegaa
