/-
  The law DiskLasts, by the contracts.
-/
import Derived.Test.YteelnffdkckinaaLastsMath
import Derived.Deep.RegionHeld3
import Derived.IntWalk
namespace Go.Proofs.Yteelnffdkckinaa
open Go.RowKit Mem FM
set_option linter.unusedVariables false

theorem Own.forms {w : World} {b : Nat} {e : TypeId} {A : Option Addr} {n c : Nat} {l : List UInt8} (h : Own w b e (.slice A n c) l) (hc : c ≠ 0) : ∃ g, A = some ⟨g, 0, none⟩ := by
  rcases h.2 with ⟨h2, h0⟩ | ⟨g, cap, cur, h1, _⟩
  · injection h2 with e1 e2 e3
    exact absurd e3 hc
  · injection h1 with e1 e2 e3
    exact ⟨g, e1⟩

set_option maxRecDepth 100000 in
set_option maxHeartbeats 4000000 in
theorem diskLasts_any (A1 A2 A3 A5 : Option Addr) (n1 c1 n2 c2 n3 c3 n5 c5 arm : Nat) (l1 l2 l3 : List UInt8) (ks : List Int) (w : World) (r1 : Rd w w.heap.size A1 n1 c1 l1) (r2 : Rd w w.heap.size A2 n2 c2 l2) (r3 : Rd w w.heap.size A3 n3 c3 l3)
    (z1 : c1 ≤ 140737488351232) (z2 : c2 ≤ 140737488351232) (z3 : c3 ≤ 140737488351232) (harm : arm < 256) (r5 : RdV w w.heap.size A5 n5 c5 (ks.map (Value.int .i64))) (hks : ∀ k ∈ ks, -9223372036854775808 ≤ k ∧ k ≤ 9223372036854775807) :
    Calls Try.prog 6 #[.slice A1 n1 c1, .slice A2 n2 c2, .slice A3 n3 c3, .int .u8 arm, .slice A5 n5 c5] w (Yes w) := by
  have hc1 := r1.cap; have hc2 := r2.cap; have hc3 := r3.cap
  have N1 := Lib.hid r1.len; have N2 := Lib.hid r2.len; have N3 := Lib.hid r3.len
  have R1 := Lib.hid r1; have R2 := Lib.hid r2; have R3 := Lib.hid r3; have R5 := Lib.hid r5; have KS := Lib.hid hks
  clear r1 r2 r3 r5 hks
  by_cases hbig : 3000 < n1 + n2 + n3
  · have hb' : (3000 : Int) < (n1 : Int) + (n2 : Int) + (n3 : Int) := by omega
    go_enter Try.func6, Try.ntmps6
    go_wp2_with fail
    refine (awake_any _).mono ?_
    rintro e w1 ⟨rfl, hb1⟩
    go_wp2_with fail
    refine (awake_any _).mono ?_
    rintro e w2 ⟨rfl, hb2⟩
    go_wp2
    go_ret
    exact ⟨rfl, hb1.trans (hb2.mono hb1.size)⟩
  · have hb' : ¬ (3000 : Int) < (n1 : Int) + (n2 : Int) + (n3 : Int) := by omega
    have HLEN := Lib.hid (show l1.length + l2.length + l3.length ≤ 3000 by have := N1.out; have := N2.out; have := N3.out; omega)
    obtain ⟨RUN⟩ := run_all l1 l2 l3 (arm % 7) (Nat.mod_lt _ (by decide)) HLEN.out
    obtain ⟨s4, s5, s6, s7, x4, x5, x6, x7, e4, e5, e6, e7, o4, o5, o6, hx, ha, hcc⟩ := RUN
    have E4 := Lib.hid e4; have E5 := Lib.hid e5; have E6 := Lib.hid e6; have E7 := Lib.hid e7; have HA := Lib.hid (ha ks); have HC := Lib.hid (hcc ks); have HX := Lib.hid hx
    clear e4 e5 e6 e7 ha hcc hx
    rcases HC.out with ⟨h7, hrc⟩ | ⟨h7, hrc⟩
    · obtain rfl : x7 = 0 := h7
      obtain rfl : x6 = 0 := HX.out rfl
      have HRC := Lib.hid hrc
      clear hrc HX
      go_enter Try.func6, Try.ntmps6
      go_wp2_with fail
      refine (awake_any _).mono ?_
      rintro e w1 ⟨rfl, hb1⟩
      go_wp2_with fail
      refine (new_any 10000 w1 (by omega)).mono ?_
      rintro e w2 ⟨D, F, rfl, hd, hF, hb2⟩
      have HD := Lib.hid hd; have HB := Lib.hid (hb1.trans (hb2.mono hb1.size)); have HF := Lib.hid (show ∀ k, F k → w.heap.size ≤ k from fun k hk => Nat.le_trans hb1.size (hF k hk))
      clear hd hb1 hb2 hF
      go_wp2_with fail
      refine (append_any D w.heap.size F (St.new 10000) nmA A1 n1 c1 l1 w2 HD.out (by decide) (R1.out.below HB.out) HB.out.size (by decide)).mono ?_
      rintro e w3 hdid
      rw [la1 l1 l2 l3 HLEN.out] at hdid
      obtain ⟨rfl, F3, hd3, hF3, hb3⟩ := hdid.step HF.out HB.out
      have HD3 := Lib.hid hd3; have HF3 := Lib.hid hF3; have HB3 := Lib.hid hb3
      clear hdid hd3 hF3 hb3 HD HF HB
      go_wp2_with fail
      refine (sync_any D F3 _ nmA w3 HD3.out (by decide) (by show 1 + 1 < 1099511627776; omega)).mono ?_
      rintro e w4 hdid
      rw [la2 l1] at hdid
      obtain ⟨rfl, F4, hd4, hF4, hb4⟩ := hdid.step HF3.out HB3.out
      have HD4 := Lib.hid hd4; have HF4 := Lib.hid hF4; have HB4 := Lib.hid hb4
      clear hdid hd4 hF4 hb4 HD3 HF3 HB3
      go_wp2_with fail
      refine (arm_any D F4 (ls0 l1) (arm % 7) w4 HD4.out (by omega)).mono ?_
      rintro e w5 hdid
      obtain ⟨rfl, F5, hd5, hF5, hb5⟩ := hdid.step HF4.out HB4.out
      have hd5 : DiskAt w5 F5 D (ls l1 (arm % 7)) := hd5
      have HD5 := Lib.hid hd5; have HF5 := Lib.hid hF5; have HB5 := Lib.hid hb5
      clear hdid hd5 hF5 hb5 HD4 HF4 HB4
      go_wp2_with fail
      refine (append_any D w.heap.size F5 (ls l1 (arm % 7)) nmA A2 n2 c2 l2 w5 HD5.out (by decide) (R2.out.below HB5.out) HB5.out.size (by show 2 + 1 < 1099511627776; omega)).mono ?_
      rintro e w6 hdid
      rw [E4.out] at hdid
      have hdid : Did F5 D x4 s4 w5 e w6 := hdid
      obtain ⟨rfl, F6, hd6, hF6, hb6⟩ := hdid.step HF5.out HB5.out
      have HD6 := Lib.hid (show DiskAt w6 F6 D s4 from hd6); have HF6 := Lib.hid hF6; have HB6 := Lib.hid hb6
      clear hdid hd6 hF6 hb6 HD5 HF5 HB5
      go_wp2_with fail
      refine (put_any D w.heap.size F6 s4 nmB A3 n3 c3 l3 w6 HD6.out (by decide) (R3.out.below HB6.out) HB6.out.size (by omega)).mono ?_
      rintro e w7 hdid
      rw [E5.out] at hdid
      have hdid : Did F6 D x5 s5 w6 e w7 := hdid
      obtain ⟨rfl, F7, hd7, hF7, hb7⟩ := hdid.step HF6.out HB6.out
      have HD7 := Lib.hid (show DiskAt w7 F7 D s5 from hd7); have HF7 := Lib.hid hF7; have HB7 := Lib.hid hb7
      clear hdid hd7 hF7 hb7 HD6 HF6 HB6
      go_wp2_with fail
      refine (sync_any D F7 s5 nmB w7 HD7.out (by decide) (by omega)).mono ?_
      rintro e w8 hdid
      rw [E6.out] at hdid
      have hdid : Did F7 D 0 s6 w7 e w8 := hdid
      obtain ⟨rfl, F8, hd8, hF8, hb8⟩ := hdid.step HF7.out HB7.out
      have HD8 := Lib.hid (show DiskAt w8 F8 D s6 from hd8); have HF8 := Lib.hid hF8; have HB8 := Lib.hid hb8
      clear hdid hd8 hF8 hb8 HD7 HF7 HB7
      go_wp2_with fail
      refine (rename_any D F8 s6 nmB nmC w8 HD8.out (by decide) (by decide) (by omega)).mono ?_
      rintro e w9 hdid
      rw [E7.out] at hdid
      have hdid : Did F8 D 0 s7 w8 e w9 := hdid
      obtain ⟨rfl, F9, hd9, hF9, hb9⟩ := hdid.step HF8.out HB8.out
      have HD9 := Lib.hid (show DiskAt w9 F9 D s7 from hd9); have HF9 := Lib.hid hF9; have HB9 := Lib.hid hb9
      clear hdid hd9 hF9 hb9 HD8 HF8 HB8
      have HRS := Lib.hid (restart_low D w.heap.size F9 s7 A5 n5 c5 ks w9 HD9.out (R5.out.below HB9.out) HB9.out.size HF9.out KS.out)
      go_wp2_with fail
      refine HRS.out.mono ?_
      rintro e w10 hdid
      obtain ⟨rfl, F10, hd10, hF10, hb10⟩ := hdid.step HF9.out HB9.out
      have HD10 := Lib.hid hd10; have HB10 := Lib.hid hb10
      clear hdid hd10 hF10 hb10 HD9 HF9 HB9 HRS
      obtain ⟨m, hm, hra⟩ := HA.out
      have hrd := read_any D F10 (restarted s7 ks) nmA w10 HD10.out (by decide)
      rw [hra] at hrd
      have HRA := Lib.hid hrd
      clear hrd hra
      go_wp2_with fail
      refine HRA.out.mono ?_
      rintro e w11 ⟨q1, rfl, ho1, hb11, hd11⟩
      have hrd := read_any D F10 (restarted s7 ks) nmC w11 hd11 (by decide)
      rw [HRC.out] at hrd
      have HRC2 := Lib.hid hrd
      have HO1 := Lib.hid ho1; have HB11 := Lib.hid (HB10.out.trans (hb11.mono HB10.out.size))
      clear hrd ho1 hb11 hd11
      go_wp2_with fail
      refine HRC2.out.mono ?_
      rintro e w12 ⟨q2, rfl, ho2, hb12, hd12⟩
      have ho1 := HO1.out.below hb12
      have hB12 := HB11.out.trans (hb12.mono HB11.out.size)
      obtain ⟨B1, d1, hv1, hr1⟩ := ho1.open_
      obtain ⟨B2, d2, hv2, hr2⟩ := ho2.open_
      have hn1 : (l1 ++ l2.take m).length = n1 + m := by have := N1.out; rw [List.length_append, List.length_take]; omega
      have hmn : m ≤ n2 := by have := N2.out; omega
      rw [hn1] at hv1 hr1
      have hd1c := hr1.cap; have hd1m := hr1.max
      -- the four texts
      have hu1 := hr1.upto (k := n1) (by omega)
      have hu2 := hr1.from_ (k := n1) (by omega)
      have hu3 := (R2.out.below hB12).upto (k := m) (by omega)
      have hu4 := R1.out.below hB12
      rw [show (l1 ++ l2.take m).take n1 = l1 by rw [List.take_append_of_le_length (by have := N1.out; omega), List.take_of_length_le (by have := N1.out; omega)]] at hu1
      rw [show (l1 ++ l2.take m).drop n1 = l2.take m by rw [N1.out, List.drop_left], show n1 + m - n1 = m by omega] at hu2
      have HU1 := Lib.hid hu1; have HU2 := Lib.hid hu2; have HU3 := Lib.hid hu3; have HU4 := Lib.hid hu4; have HO2 := Lib.hid hr2
      have HB12 := Lib.hid hB12
      have HFM := Lib.hid (fun (hc : d1 ≠ 0) => Own.forms (hv1 ▸ ho1) hc)
      subst hv1 hv2
      obtain ⟨np, hnp⟩ : ∃ np, np = n1 + m := ⟨_, rfl⟩
      have HU1' := HU1
      clear ho1 ho2 hb12 hd12 hr1 hr2 hu1 hu2 hu3 hu4 hn1 hB12 HO1 HB11
      rw [← hnp]
      rw [← hnp] at hd1c
      have hs1 : decide (np < n1) = false := by simp; omega
      have hs2 : decide ((n1 : Int) + (n2 : Int) < (np : Int)) = false := by simp; omega
      have hs3 : IntKind.i64.wrap ((n1 : Int) + (n2 : Int)) = (n1 : Int) + (n2 : Int) := IntWalk.i64_in _ (by omega)
      have hs4 : IntKind.i64.wrap ((np : Int) - (n1 : Int)) = (m : Int) := by rw [IntWalk.i64_in _ (by omega)]; omega
      have hs5 : (0 : Int) ≤ (n1 : Int) := by omega
      have hs6 : (n1 : Int) ≤ (np : Int) := by omega
      have hs7 : (np : Int) ≤ (d1 : Int) := by omega
      have hs8 : (n1 : Int) ≤ (d1 : Int) := by omega
      have hs9 : (0 : Int) ≤ (m : Int) := by omega
      have hs10 : (m : Int) ≤ (n2 : Int) := by omega
      have hs11 : (m : Int) ≤ (c2 : Int) := by omega
      have hs12 : np - n1 = m := by omega
      clear hnp
      obtain ⟨T1, hT1⟩ : ∃ T : ByteArray, T = ⟨l1.toArray⟩ := ⟨_, rfl⟩
      obtain ⟨T2, hT2⟩ : ∃ T : ByteArray, T = ⟨(l2.take m).toArray⟩ := ⟨_, rfl⟩
      have v1 := run_str (P := Try.prog) _ _ 32 9 5 Try.underlying32 Try.underlying5 Try.underlying9 _ _ _ _ HU1.out.drew
      have v2 := run_str (P := Try.prog) _ _ 32 9 5 Try.underlying32 Try.underlying5 Try.underlying9 _ _ _ _ HU4.out.drew
      have v3 := run_str (P := Try.prog) _ _ 32 9 5 Try.underlying32 Try.underlying5 Try.underlying9 _ _ _ _ HU2.out.drew
      have v4 := run_str (P := Try.prog) _ _ 32 9 5 Try.underlying32 Try.underlying5 Try.underlying9 _ _ _ _ HU3.out.drew
      rw [← hT1] at v1 v2
      rw [← hT2] at v3 v4
      clear hT1 hT2
      by_cases hdn : d1 = n1
      · rw [if_pos hdn, hdn, Nat.sub_self] at v3
        subst hdn
        have V := Lib.hid (show _ ∧ _ ∧ _ ∧ _ from ⟨v1, v2, v3, v4⟩)
        clear v1 v2 v3 v4
        go_wp2_with fail
        go_region_held3 (fun W => (convert 32 9 (.slice B1 d1 d1)).run Try.prog W = .ok (.string T1) W ∧ (convert 32 9 (.slice A1 d1 c1)).run Try.prog W = .ok (.string T1) W ∧ (convert 32 9 (.slice B1 m 0)).run Try.prog W = .ok (.string T2) W ∧ (convert 32 9 (.slice A2 m c2)).run Try.prog W = .ok (.string T2) W)
          (first | exact hHeld | exact V.out) (fail)
        have hy1 := run_str (P := Try.prog) w12.drew _ 32 9 5 Try.underlying32 Try.underlying5 Try.underlying9 _ _ _ _ HO2.out
        have hy2 := run_str (P := Try.prog) w12.drew _ 32 9 5 Try.underlying32 Try.underlying5 Try.underlying9 _ _ _ _ (R3.out.below HB12.out).drew
        generalize (⟨l3.toArray⟩ : ByteArray) = T3 at *
        generalize l3.length = n9 at *
        go_wp2
        go_ret
        exact ⟨rfl, ⟨HB12.out.os, HB12.out.tape, HB12.out.output, HB12.out.size, HB12.out.block⟩⟩
      · obtain ⟨g, rfl⟩ := HFM.out (by omega)
        rw [if_neg hdn] at v3
        simp only [Option.map_some, add_none, Nat.zero_add] at v3
        have V := Lib.hid (show _ ∧ _ ∧ _ ∧ _ from ⟨v1, v2, v3, v4⟩)
        clear v1 v2 v3 v4
        go_wp2_with fail
        go_region_held3 (fun W => (convert 32 9 (.slice (some ⟨g, 0, none⟩) n1 d1)).run Try.prog W = .ok (.string T1) W ∧ (convert 32 9 (.slice A1 n1 c1)).run Try.prog W = .ok (.string T1) W ∧ (convert 32 9 (.slice (some ⟨g, n1, none⟩) m (d1 - n1))).run Try.prog W = .ok (.string T2) W ∧ (convert 32 9 (.slice A2 m c2)).run Try.prog W = .ok (.string T2) W)
          (first | exact hHeld | exact V.out) (fail)
        have hy1 := run_str (P := Try.prog) w12.drew _ 32 9 5 Try.underlying32 Try.underlying5 Try.underlying9 _ _ _ _ HO2.out
        have hy2 := run_str (P := Try.prog) w12.drew _ 32 9 5 Try.underlying32 Try.underlying5 Try.underlying9 _ _ _ _ (R3.out.below HB12.out).drew
        generalize (⟨l3.toArray⟩ : ByteArray) = T3 at *
        generalize l3.length = n9 at *
        go_wp2
        go_ret
        exact ⟨rfl, ⟨HB12.out.os, HB12.out.tape, HB12.out.output, HB12.out.size, HB12.out.block⟩⟩
    · have hq7 : (x7 == 0) = false := by simpa using h7
      have HRC := Lib.hid hrc
      clear hrc HX
      go_enter Try.func6, Try.ntmps6
      go_wp2_with fail
      refine (awake_any _).mono ?_
      rintro e w1 ⟨rfl, hb1⟩
      go_wp2_with fail
      refine (new_any 10000 w1 (by omega)).mono ?_
      rintro e w2 ⟨D, F, rfl, hd, hF, hb2⟩
      have HD := Lib.hid hd; have HB := Lib.hid (hb1.trans (hb2.mono hb1.size)); have HF := Lib.hid (show ∀ k, F k → w.heap.size ≤ k from fun k hk => Nat.le_trans hb1.size (hF k hk))
      clear hd hb1 hb2 hF
      go_wp2_with fail
      refine (append_any D w.heap.size F (St.new 10000) nmA A1 n1 c1 l1 w2 HD.out (by decide) (R1.out.below HB.out) HB.out.size (by decide)).mono ?_
      rintro e w3 hdid
      rw [la1 l1 l2 l3 HLEN.out] at hdid
      obtain ⟨rfl, F3, hd3, hF3, hb3⟩ := hdid.step HF.out HB.out
      have HD3 := Lib.hid hd3; have HF3 := Lib.hid hF3; have HB3 := Lib.hid hb3
      clear hdid hd3 hF3 hb3 HD HF HB
      go_wp2_with fail
      refine (sync_any D F3 _ nmA w3 HD3.out (by decide) (by show 1 + 1 < 1099511627776; omega)).mono ?_
      rintro e w4 hdid
      rw [la2 l1] at hdid
      obtain ⟨rfl, F4, hd4, hF4, hb4⟩ := hdid.step HF3.out HB3.out
      have HD4 := Lib.hid hd4; have HF4 := Lib.hid hF4; have HB4 := Lib.hid hb4
      clear hdid hd4 hF4 hb4 HD3 HF3 HB3
      go_wp2_with fail
      refine (arm_any D F4 (ls0 l1) (arm % 7) w4 HD4.out (by omega)).mono ?_
      rintro e w5 hdid
      obtain ⟨rfl, F5, hd5, hF5, hb5⟩ := hdid.step HF4.out HB4.out
      have hd5 : DiskAt w5 F5 D (ls l1 (arm % 7)) := hd5
      have HD5 := Lib.hid hd5; have HF5 := Lib.hid hF5; have HB5 := Lib.hid hb5
      clear hdid hd5 hF5 hb5 HD4 HF4 HB4
      go_wp2_with fail
      refine (append_any D w.heap.size F5 (ls l1 (arm % 7)) nmA A2 n2 c2 l2 w5 HD5.out (by decide) (R2.out.below HB5.out) HB5.out.size (by show 2 + 1 < 1099511627776; omega)).mono ?_
      rintro e w6 hdid
      rw [E4.out] at hdid
      have hdid : Did F5 D x4 s4 w5 e w6 := hdid
      obtain ⟨rfl, F6, hd6, hF6, hb6⟩ := hdid.step HF5.out HB5.out
      have HD6 := Lib.hid (show DiskAt w6 F6 D s4 from hd6); have HF6 := Lib.hid hF6; have HB6 := Lib.hid hb6
      clear hdid hd6 hF6 hb6 HD5 HF5 HB5
      go_wp2_with fail
      refine (put_any D w.heap.size F6 s4 nmB A3 n3 c3 l3 w6 HD6.out (by decide) (R3.out.below HB6.out) HB6.out.size (by omega)).mono ?_
      rintro e w7 hdid
      rw [E5.out] at hdid
      have hdid : Did F6 D x5 s5 w6 e w7 := hdid
      obtain ⟨rfl, F7, hd7, hF7, hb7⟩ := hdid.step HF6.out HB6.out
      have HD7 := Lib.hid (show DiskAt w7 F7 D s5 from hd7); have HF7 := Lib.hid hF7; have HB7 := Lib.hid hb7
      clear hdid hd7 hF7 hb7 HD6 HF6 HB6
      go_wp2_with fail
      refine (sync_any D F7 s5 nmB w7 HD7.out (by decide) (by omega)).mono ?_
      rintro e w8 hdid
      rw [E6.out] at hdid
      have hdid : Did F7 D x6 s6 w7 e w8 := hdid
      obtain ⟨rfl, F8, hd8, hF8, hb8⟩ := hdid.step HF7.out HB7.out
      have HD8 := Lib.hid (show DiskAt w8 F8 D s6 from hd8); have HF8 := Lib.hid hF8; have HB8 := Lib.hid hb8
      clear hdid hd8 hF8 hb8 HD7 HF7 HB7
      go_wp2_with fail
      refine (rename_any D F8 s6 nmB nmC w8 HD8.out (by decide) (by decide) (by omega)).mono ?_
      rintro e w9 hdid
      rw [E7.out] at hdid
      have hdid : Did F8 D x7 s7 w8 e w9 := hdid
      obtain ⟨rfl, F9, hd9, hF9, hb9⟩ := hdid.step HF8.out HB8.out
      have HD9 := Lib.hid (show DiskAt w9 F9 D s7 from hd9); have HF9 := Lib.hid hF9; have HB9 := Lib.hid hb9
      clear hdid hd9 hF9 hb9 HD8 HF8 HB8
      have HRS := Lib.hid (restart_low D w.heap.size F9 s7 A5 n5 c5 ks w9 HD9.out (R5.out.below HB9.out) HB9.out.size HF9.out KS.out)
      go_wp2_with fail
      refine HRS.out.mono ?_
      rintro e w10 hdid
      obtain ⟨rfl, F10, hd10, hF10, hb10⟩ := hdid.step HF9.out HB9.out
      have HD10 := Lib.hid hd10; have HB10 := Lib.hid hb10
      clear hdid hd10 hF10 hb10 HD9 HF9 HB9 HRS
      obtain ⟨m, hm, hra⟩ := HA.out
      have hrd := read_any D F10 (restarted s7 ks) nmA w10 HD10.out (by decide)
      rw [hra] at hrd
      have HRA := Lib.hid hrd
      clear hrd hra
      go_wp2_with fail
      refine HRA.out.mono ?_
      rintro e w11 ⟨q1, rfl, ho1, hb11, hd11⟩
      have hrd := read_any D F10 (restarted s7 ks) nmC w11 hd11 (by decide)
      rw [HRC.out] at hrd
      have HRC2 := Lib.hid hrd
      have HO1 := Lib.hid ho1; have HB11 := Lib.hid (HB10.out.trans (hb11.mono HB10.out.size))
      clear hrd ho1 hb11 hd11
      go_wp2_with fail
      refine HRC2.out.mono ?_
      rintro e w12 ⟨q2, rfl, ho2, hb12, hd12⟩
      have ho1 := HO1.out.below hb12
      have hB12 := HB11.out.trans (hb12.mono HB11.out.size)
      obtain ⟨B1, d1, hv1, hr1⟩ := ho1.open_
      obtain ⟨B2, d2, hv2, hr2⟩ := ho2.open_
      have hn1 : (l1 ++ l2.take m).length = n1 + m := by have := N1.out; rw [List.length_append, List.length_take]; omega
      have hmn : m ≤ n2 := by have := N2.out; omega
      rw [hn1] at hv1 hr1
      have hd1c := hr1.cap; have hd1m := hr1.max
      -- the four texts
      have hu1 := hr1.upto (k := n1) (by omega)
      have hu2 := hr1.from_ (k := n1) (by omega)
      have hu3 := (R2.out.below hB12).upto (k := m) (by omega)
      have hu4 := R1.out.below hB12
      rw [show (l1 ++ l2.take m).take n1 = l1 by rw [List.take_append_of_le_length (by have := N1.out; omega), List.take_of_length_le (by have := N1.out; omega)]] at hu1
      rw [show (l1 ++ l2.take m).drop n1 = l2.take m by rw [N1.out, List.drop_left], show n1 + m - n1 = m by omega] at hu2
      have HU1 := Lib.hid hu1; have HU2 := Lib.hid hu2; have HU3 := Lib.hid hu3; have HU4 := Lib.hid hu4; have HO2 := Lib.hid hr2
      have HB12 := Lib.hid hB12
      have HFM := Lib.hid (fun (hc : d1 ≠ 0) => Own.forms (hv1 ▸ ho1) hc)
      subst hv1 hv2
      obtain ⟨np, hnp⟩ : ∃ np, np = n1 + m := ⟨_, rfl⟩
      have HU1' := HU1
      clear ho1 ho2 hb12 hd12 hr1 hr2 hu1 hu2 hu3 hu4 hn1 hB12 HO1 HB11
      rw [← hnp]
      rw [← hnp] at hd1c
      have hs1 : decide (np < n1) = false := by simp; omega
      have hs2 : decide ((n1 : Int) + (n2 : Int) < (np : Int)) = false := by simp; omega
      have hs3 : IntKind.i64.wrap ((n1 : Int) + (n2 : Int)) = (n1 : Int) + (n2 : Int) := IntWalk.i64_in _ (by omega)
      have hs4 : IntKind.i64.wrap ((np : Int) - (n1 : Int)) = (m : Int) := by rw [IntWalk.i64_in _ (by omega)]; omega
      have hs5 : (0 : Int) ≤ (n1 : Int) := by omega
      have hs6 : (n1 : Int) ≤ (np : Int) := by omega
      have hs7 : (np : Int) ≤ (d1 : Int) := by omega
      have hs8 : (n1 : Int) ≤ (d1 : Int) := by omega
      have hs9 : (0 : Int) ≤ (m : Int) := by omega
      have hs10 : (m : Int) ≤ (n2 : Int) := by omega
      have hs11 : (m : Int) ≤ (c2 : Int) := by omega
      have hs12 : np - n1 = m := by omega
      clear hnp
      obtain ⟨T1, hT1⟩ : ∃ T : ByteArray, T = ⟨l1.toArray⟩ := ⟨_, rfl⟩
      obtain ⟨T2, hT2⟩ : ∃ T : ByteArray, T = ⟨(l2.take m).toArray⟩ := ⟨_, rfl⟩
      have v1 := run_str (P := Try.prog) _ _ 32 9 5 Try.underlying32 Try.underlying5 Try.underlying9 _ _ _ _ HU1.out.drew
      have v2 := run_str (P := Try.prog) _ _ 32 9 5 Try.underlying32 Try.underlying5 Try.underlying9 _ _ _ _ HU4.out.drew
      have v3 := run_str (P := Try.prog) _ _ 32 9 5 Try.underlying32 Try.underlying5 Try.underlying9 _ _ _ _ HU2.out.drew
      have v4 := run_str (P := Try.prog) _ _ 32 9 5 Try.underlying32 Try.underlying5 Try.underlying9 _ _ _ _ HU3.out.drew
      rw [← hT1] at v1 v2
      rw [← hT2] at v3 v4
      clear hT1 hT2
      by_cases hdn : d1 = n1
      · rw [if_pos hdn, hdn, Nat.sub_self] at v3
        subst hdn
        have V := Lib.hid (show _ ∧ _ ∧ _ ∧ _ from ⟨v1, v2, v3, v4⟩)
        clear v1 v2 v3 v4
        go_wp2_with fail
        go_region_held3 (fun W => (convert 32 9 (.slice B1 d1 d1)).run Try.prog W = .ok (.string T1) W ∧ (convert 32 9 (.slice A1 d1 c1)).run Try.prog W = .ok (.string T1) W ∧ (convert 32 9 (.slice B1 m 0)).run Try.prog W = .ok (.string T2) W ∧ (convert 32 9 (.slice A2 m c2)).run Try.prog W = .ok (.string T2) W)
          (first | exact hHeld | exact V.out) (fail)
        go_wp2
        go_ret
        exact ⟨rfl, ⟨HB12.out.os, HB12.out.tape, HB12.out.output, HB12.out.size, HB12.out.block⟩⟩
      · obtain ⟨g, rfl⟩ := HFM.out (by omega)
        rw [if_neg hdn] at v3
        simp only [Option.map_some, add_none, Nat.zero_add] at v3
        have V := Lib.hid (show _ ∧ _ ∧ _ ∧ _ from ⟨v1, v2, v3, v4⟩)
        clear v1 v2 v3 v4
        go_wp2_with fail
        go_region_held3 (fun W => (convert 32 9 (.slice (some ⟨g, 0, none⟩) n1 d1)).run Try.prog W = .ok (.string T1) W ∧ (convert 32 9 (.slice A1 n1 c1)).run Try.prog W = .ok (.string T1) W ∧ (convert 32 9 (.slice (some ⟨g, n1, none⟩) m (d1 - n1))).run Try.prog W = .ok (.string T2) W ∧ (convert 32 9 (.slice A2 m c2)).run Try.prog W = .ok (.string T2) W)
          (first | exact hHeld | exact V.out) (fail)
        go_wp2
        go_ret
        exact ⟨rfl, ⟨HB12.out.os, HB12.out.tape, HB12.out.output, HB12.out.size, HB12.out.block⟩⟩
end Go.Proofs.Yteelnffdkckinaa
