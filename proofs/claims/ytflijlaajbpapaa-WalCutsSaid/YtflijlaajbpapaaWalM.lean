/-
  WalCuts: the walk.
-/
import Derived.Test.YtflijlaajbpapaaWalL
namespace Go.Proofs.Ytflijlaajbpapaa
open Go.RowKit Mem FM
set_option linter.unusedVariables false
set_option maxRecDepth 100000

theorem scan_count (l : List UInt8) : (M.scan l).1.length ≤ l.length + 1 := by
  have key : ∀ (f k : Nat), (M.scanN f l k).1.length ≤ f := by
    intro f
    induction f with
    | zero => intro k; simp [M.scanN]
    | succ f ih =>
      intro k
      rw [M.scanN]
      split
      · have := ih (M.rdFrame l k).2.1
        simp; omega
      · simp
  exact key _ 0

set_option maxHeartbeats 2000000 in
theorem walCuts_any (A1 : Option Addr) (n1 c1 : Nat) (p : List UInt8) (A2 : Option Addr) (n2 c2 : Nat) (q : List UInt8) (w : World) (h1 : Rd w w.heap.size A1 n1 c1 p) (h2 : Rd w w.heap.size A2 n2 c2 q) (hz1 : c1 ≤ 140737488351232) (hz2 : c2 ≤ 140737488351232) :
    Calls Try.prog 6 #[.slice A1 n1 c1, .slice A2 n2 c2] w (fun e w' => e = .returned (.bool true) ∧ Below w.heap.size w w') := by
  have hc1 := h1.cap; have hc2 := h2.cap
  have HAW := Lib.hid (fun w => awake_any w)
  have HR1 := Lib.hid h1; have HR2 := Lib.hid h2
  have HN1 := Lib.hid h1.len; have HN2 := Lib.hid h2.len
  clear h1 h2
  by_cases hbig : 5000 < n1 + n2
  · have hq : (5000 : Int) < (n1 : Int) + (n2 : Int) := by omega
    go_enter Try.func6, Try.ntmps6
    go_wp2_with fail
    refine (HAW.out _).mono ?_
    rintro e w1 ⟨rfl, hb1⟩
    have HB1 := Lib.hid hb1
    clear hb1
    go_wp2_with fail
    refine (HAW.out _).mono ?_
    rintro e w2 ⟨rfl, hb2⟩
    have HB2 := Lib.hid (HB1.out.trans (hb2.mono HB1.out.size))
    clear hb2
    go_wp2
    go_ret
    exact ⟨rfl, HB2.out⟩
  have hq : ¬ (5000 : Int) < (n1 : Int) + (n2 : Int) := by omega
  have HP := Lib.hid (show p.length ≤ 5000 by have := HN1.out; omega)
  have HPQ := Lib.hid (show p.length + q.length ≤ 5000 by have := HN1.out; have := HN2.out; omega)
  go_enter Try.func6, Try.ntmps6
  go_wp2_with fail
  refine (HAW.out _).mono ?_
  rintro e w1 ⟨rfl, hb1⟩
  have HB1 := Lib.hid hb1
  clear hb1
  go_wp2_with fail
  refine (new_any 65536 w1 (by omega)).mono ?_
  rintro e w2 ⟨D, F, rfl, hd, hF, hb2⟩
  have HB2 := Lib.hid (HB1.out.trans (hb2.mono HB1.out.size))
  have HF2 := Lib.hid (show ∀ k, F k → w.heap.size ≤ k from fun k hk => Nat.le_trans HB1.out.size (hF k hk))
  have ha := append_any D w.heap.size F (St.new 65536) nmLg A1 n1 c1 p w2 hd (by decide) (HR1.out.below HB2.out) HB2.out.size (by decide)
  rw [ca1 p HP.out] at ha
  have HA := Lib.hid ha
  clear hd hF hb2 ha
  go_wp2_with fail
  refine HA.out.mono ?_
  rintro e w3 hdid
  obtain ⟨rfl, F3, hd3, hF3, hb3⟩ := hdid.step HF2.out HB2.out
  have hs := sync_any D F3 (cu [fg p 0] 1) nmLg w3 hd3 (by decide) (by show 1 + 1 < _; decide)
  rw [ca2 p 0] at hs
  have HS := Lib.hid hs; have HF3 := Lib.hid hF3; have HB3 := Lib.hid hb3
  clear hdid hd3 hF3 hb3 hs HA
  go_wp2_with fail
  refine HS.out.mono ?_
  rintro e w4 hdid
  obtain ⟨rfl, F4, hd4, hF4, hb4⟩ := hdid.step HF3.out HB3.out
  have ha := append_any D w.heap.size F4 (cu [fg p p.length] 2) nmLn A2 n2 c2 q w4 hd4 (by decide) (HR2.out.below hb4) hb4.size (by show 2 + 1 < _; decide)
  rw [ca3 p q p.length HPQ.out] at ha
  have HA := Lib.hid ha; have HF4 := Lib.hid hF4; have HB4 := Lib.hid hb4
  clear hdid hd4 hF4 hb4 ha HS
  go_wp2_with fail
  refine HA.out.mono ?_
  rintro e w5 hdid
  obtain ⟨rfl, F5, hd5, hF5, hb5⟩ := hdid.step HF4.out HB4.out
  obtain ⟨o', ho', hop⟩ := copen p q 0 3 HP.out
  have ho := open_ok D F5 (cu [fg p p.length, fn q 0] 3) nmLg w5 hd5 (by decide) (by decide) (by show 3 + 20 < _; decide) (by rw [hop])
  rw [hop, cread p q p.length 0 3 trivial] at ho
  have HO := Lib.hid ho; have HF5 := Lib.hid hF5; have HB5 := Lib.hid hb5
  clear hdid hd5 hF5 hb5 ho HA hop
  go_wp2_with fail
  refine HO.out.mono ?_
  rintro e w6 hopd
  obtain ⟨G, rfl, hwal⟩ := Wal.of_opened hopd HF5.out HB5.out
  obtain ⟨F6, FL6, rs6, a1, a2, a3, a4, a5, a6, a7⟩ := hwal
  have hsz := scan_le p
  have hsn := scan_count p
  rw [← HN1.out] at hsz
  have hrl6 : rs6.length ≤ 5001 := by
    have e1 : (recs rs6).length = rs6.length := by simp [recs]
    rw [a3] at e1
    have := HP.out
    omega
  have HD6 := Lib.hid a1; have HL6 := Lib.hid a2; have HE6 := Lib.hid a3; have HB6 := Lib.hid a7
  clear hopd HO a1 a2 a3 a4 a5 a6 a7 hsn
  have HSC := Lib.hid (ref_scan_any A1 n1 c1 w.heap.size p w6 (HR1.out.below HB6.out) HB6.out.size (by omega))
  go_wp2_with fail
  refine HSC.out.mono ?_
  rintro e w7 ⟨v7, rs7, rfl, hr7, he7, hb7⟩
  obtain ⟨A7, c7, rfl, hl7, hm7⟩ := hr7.form
  have HB7 := Lib.hid (HB6.out.trans (hb7.mono HB6.out.size))
  have HAL := Lib.hid (all_any G D FL6 nmLg rs6 w7 (HL6.out.below hb7) (by omega))
  have k7 := hr7.rdl HB7.out.size
  rw [he7] at k7
  have HK7 := Lib.hid k7
  have HD7 := Lib.hid (HD6.out.below hb7)
  generalize rs7.length = n7 at *
  clear hr7 he7 hb7 k7 HSC
  go_wp2_with fail
  refine HAL.out.mono ?_
  rintro e w8 ⟨A8, n8, c8, ls8, rfl, hr8, he8, hb8⟩
  have k8 := hr8.rdl
  rw [he8, HE6.out] at k8
  have HSA := Lib.hid (same_any A8 A7 n8 c8 n7 c7 _ w8 k8 (HK7.out.keep hb8))
  have HB8 := Lib.hid (HB7.out.trans (hb8.mono HB7.out.size)); have HD8 := Lib.hid (HD7.out.below hb8)
  clear hr8 he8 hb8 k8 HAL
  go_wp2_with fail
  refine HSA.out.mono ?_
  rintro e w9 ⟨rfl, hb9⟩
  have HB9 := Lib.hid (HB8.out.trans (hb9.mono HB8.out.size)); have HD9 := Lib.hid (HD8.out.below hb9)
  have hrd := read_any D F6 _ nmLg w9 HD9.out (by decide)
  rw [cread1] at hrd
  have HRD := Lib.hid hrd
  clear hb9 hrd HSA
  go_wp2_with fail
  refine HRD.out.mono ?_
  rintro e w10 ⟨v10, rfl, ho10, hb10, hd10⟩
  obtain ⟨A10, c10, hv10, hr10⟩ := ho10.open_
  subst hv10
  have HB10 := Lib.hid (HB9.out.trans (hb10.mono HB9.out.size)); have HD10 := Lib.hid hd10
  have HNM := Lib.hid (names_any D F6 _ w10 hd10)
  have HR10 := Lib.hid hr10
  clear ho10 hr10 hb10 hd10 HRD
  have htl : (p.take (M.scan p).2).length = (M.scan p).2 := by rw [List.length_take, Nat.min_eq_left]; have := HN1.out; omega
  rw [htl] at HR10 ⊢
  go_wp2_with fail
  refine HNM.out.mono ?_
  rintro e w11 ⟨v11, rfl, hrow, hb11⟩
  have hrow : w11.ownsRow w10.heap.size 9 1 v11 1 _ := hrow
  obtain ⟨g11, cp, rfl, hcp1, hcp2⟩ : ∃ g cp, v11 = .slice (some ⟨g, 0, none⟩) 1 cp ∧ 1 ≤ cp ∧ cp ≤ 9223372036854775807 := by
    rcases hrow.2 with ⟨_, h2⟩ | ⟨g', cap', cur', hv', _, _, h5, h6, _⟩
    · omega
    · exact ⟨g', cap', hv', h5, by simpa only [maxLen] using h6⟩
  have HB11 := Lib.hid (HB10.out.trans (hb11.mono HB10.out.size))
  have hsu := sure_any D F6 _ nmLg w11.drew (HD10.out.below hb11).drew (by decide)
  have y1 := run_str (P := Try.prog) _ _ 22 9 5 Try.underlying22 Try.underlying5 Try.underlying9 _ _ _ _ (HR10.out.below hb11).drew
  have y2 := run_str (P := Try.prog) _ _ 22 9 5 Try.underlying22 Try.underlying5 Try.underlying9 _ _ _ _ ((HR1.out.below HB11.out).upto hsz).drew
  generalize (⟨(p.take (M.scan p).2).toArray⟩ : ByteArray) = T at y1 y2
  generalize p.take (M.scan p).2 = tk at *
  generalize (M.scan p).2 = sz at *
  rw [show ((find nmLg.data.toList (cu [fg tk sz] o').files).map fun f => (f.sure : Int)).getD 0 = (sz : Int) from rfl] at hsu
  have HSU := Lib.hid hsu
  have V := Lib.hid (show _ ∧ _ from ⟨y1, y2⟩)
  clear y1 y2 hsu hrow hb11 HNM htl
  have b1 : (0 : Int) ≤ (sz : Int) := by omega
  have b2 : (sz : Int) ≤ (c1 : Int) := by omega
  have b3 : (sz : Int) ≤ (n1 : Int) := by omega
  have b4 : sz ≤ c1 := by omega
  have b5 : ¬ (c1 : Int) < (sz : Int) := by omega
  have b6 : ¬ c1 < sz := by omega
  go_wp2_with fail
  go_region_held3 (fun W => (convert 22 9 (.slice A10 sz c10)).run Try.prog W = .ok (.string T) W ∧ (convert 22 9 (.slice A1 sz c1)).run Try.prog W = .ok (.string T) W)
    (first | exact hHeld | exact V.out)
    ((go_at_call 27; refine HSU.out.mono ?_; rintro e w12 ⟨rfl, hw12⟩; subst hw12))
  go_wp2
  go_ret
  exact ⟨rfl, ⟨HB11.out.os, HB11.out.tape, HB11.out.output, HB11.out.size, HB11.out.block⟩⟩
end Go.Proofs.Ytflijlaajbpapaa
