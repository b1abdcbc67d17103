/-
  The law PackReads, by the contracts: what is read at any place of any bytes.
-/
import Derived.Test.YtbilcokmdghioaaPackG
namespace Go.Proofs.Ytbilcokmdghioaa
open Go.RowKit Mem

set_option maxRecDepth 100000 in
set_option maxHeartbeats 1000000 in
theorem packReads_any (A : Option Addr) (n c : Nat) (l : List UInt8) (at_ most : Int) (w : World) (h : Rd w w.heap.size A n c l) (h1 : -9223372036854775808 ≤ at_) (h2 : at_ ≤ 9223372036854775807) (h3 : -9223372036854775808 ≤ most) (h4 : most ≤ 9223372036854775807) :
    Calls Try.prog 4 #[.slice A n c, .int .i64 at_, .int .i64 most] w (Yes w) := by
  go_enter Try.func4, Try.ntmps4
  go_wp2_with fail
  refine (awake_any w).mono ?_
  rintro e w1 ⟨rfl, hb1⟩
  have r1 := h.below hb1
  go_wp2_with fail
  refine (readUvarint_any A n c _ l at_ w1 r1 h1 h2).mono ?_
  rintro e w1' ⟨rfl, rfl⟩
  go_wp2_with fail
  refine (ref_readUvarint_any A n c _ l at_ w1 r1 hb1.size h1 h2).mono ?_
  rintro e w2 ⟨rfl, hb2⟩
  have hb02 := hb1.trans (hb2.mono hb1.size)
  have r2 := h.below hb02
  go_wp2_with fail
  refine (readText_any A n c _ l at_ most w2 r2 h1 h2 h3 h4).mono ?_
  rintro e w3 ⟨rfl, hb3⟩
  have hb03 := hb02.trans (hb3.mono hb02.size)
  have r3 := h.below hb03
  go_wp2_with fail
  refine (ref_readText_any A n c _ l at_ most w3 r3 hb03.size h1 h2 h3 h4).mono ?_
  rintro e w4 ⟨rfl, hb4⟩
  have hb04 := hb03.trans (hb4.mono hb03.size)
  clear hb1 hb2 hb3 hb4 hb02 hb03 r1 r2 r3
  generalize M.rdText l at_ most = r at *
  generalize M.rdAt l at_ = q at *
  go_wp2
  go_ret
  exact ⟨rfl, hb04⟩
end Go.Proofs.Ytbilcokmdghioaa
