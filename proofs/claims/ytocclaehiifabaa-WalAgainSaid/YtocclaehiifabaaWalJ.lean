/-
  WalScans: the walk.
-/
import Derived.Test.YtocclaehiifabaaWalI
namespace Go.Proofs.Ytocclaehiifabaa
open Go.RowKit Mem FM
set_option linter.unusedVariables false
set_option maxRecDepth 100000

set_option maxHeartbeats 1000000 in
theorem walScans_any (A : Option Addr) (n c : Nat) (l : List UInt8) (w : World) (h : Rd w w.heap.size A n c l) (hn : c ≤ 1048576) :
    Calls Try.prog 3 #[.slice A n c] w (fun e w' => e = .returned (.bool true) ∧ Below w.heap.size w w') := by
  have hc := h.cap
  have HAW := Lib.hid (awake_any w)
  have HR := Lib.hid h
  have HN := Lib.hid (show n ≤ 1073741824 by omega)
  clear h
  generalize hsz : (M.scan l).2 = sz
  have HSZ := Lib.hid hsz
  clear hsz
  go_enter Try.func3, Try.ntmps3
  go_wp2_with fail
  refine HAW.out.mono ?_
  rintro e w1 ⟨rfl, hb1⟩
  have HSC := Lib.hid (scan_any A n c w.heap.size l w1 (HR.out.below hb1) hb1.size HN.out)
  have HB1 := Lib.hid hb1
  clear hb1 HAW
  go_wp2_with fail
  refine HSC.out.mono ?_
  rintro e w2 ⟨v2, rs2, rfl, hr2, he2, hb2⟩
  obtain ⟨A2, c2, rfl, hl2, hm2⟩ := hr2.form
  have HB2 := Lib.hid (HB1.out.trans (hb2.mono HB1.out.size))
  have HSR := Lib.hid (ref_scan_any A n c w.heap.size l w2 (HR.out.below HB2.out) HB2.out.size HN.out)
  have HR2 := Lib.hid hr2; have HE2 := Lib.hid he2
  clear hr2 he2 hb2 HSC
  go_wp2_with fail
  refine HSR.out.mono ?_
  rintro e w3 ⟨v3, rs3, rfl, hr3, he3, hb3⟩
  obtain ⟨A3, c3, rfl, hl3, hm3⟩ := hr3.form
  have HB3 := Lib.hid (HB2.out.trans (hb3.mono HB2.out.size))
  have k2 := ((HR2.out.rdl).keep hb3)
  have k3 := hr3.rdl HB3.out.size
  rw [HE2.out] at k2
  rw [he3] at k3
  have HSA := Lib.hid (same_any A2 A3 _ _ _ _ _ w3 k2 k3)
  clear k2 k3 hr3 he3 hb3 HSR HR2 HE2
  go_wp2_with fail
  refine HSA.out.mono ?_
  rintro e w4 ⟨rfl, hb4⟩
  have HB4 := Lib.hid (HB3.out.trans (hb4.mono HB3.out.size))
  clear hb4
  go_wp2
  go_ret
  exact ⟨rfl, HB4.out⟩
end Go.Proofs.Ytocclaehiifabaa
