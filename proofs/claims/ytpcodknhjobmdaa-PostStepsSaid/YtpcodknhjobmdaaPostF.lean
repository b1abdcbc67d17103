/-
  The document's example of layer 8 ('awake'), and the laws PostReads, PostSets and PostLaws, by the contracts.
-/
import Derived.Test.YtpcodknhjobmdaaPostC
import Derived.Test.YtpcodknhjobmdaaPostE
namespace Go.Proofs.Ytpcodknhjobmdaa
open Go.RowKit Mem
set_option linter.unusedVariables false
set_option maxRecDepth 100000

theorem rdv_fresh (w : World) (cs : Array Value) (e : TypeId) (xs : List Value) (h : cs.toList = xs) (hn : xs.length ≤ 1000) :
    RdV (w.alloc (.cells cs e)) (w.alloc (.cells cs e)).heap.size (some ⟨w.heap.size, 0, none⟩) xs.length xs.length xs := by
  refine ⟨rfl, Nat.le_refl _, by simp [maxLen]; omega, fun _ => ⟨w.heap.size, 0, rfl, by simp, fun j hj => ?_⟩⟩
  have hh : (w.alloc (.cells cs e)).heap[w.heap.size]? = some (.cells cs e) := heap_alloc_new w _
  rw [cell_of_row _ w.heap.size (0 + j) cs e _ hh, Nat.zero_add, ← h]
  simp

set_option maxHeartbeats 1000000 in
theorem awake8_any (w : World) : Calls Try.prog 8 #[] w (SaysB true w) := by
  have HR := Lib.hid (rdv_fresh w #[.int .i64 0, .int .i64 1, .int .i64 5] 3 (ints [0, 1, 5]) rfl (by decide))
  have HC := Lib.hid (encode_any _ 3 3 [0, 1, 5] _ HR.out (by intro k hk; simp at hk; omega) (by omega))
  clear HR
  have HO := Lib.hid (show M.encOut [0, 1, 5] = [3, 0, 0, 3] by decide)
  have HE := Lib.hid (show M.encErr [0, 1, 5] = 0 by decide)
  go_enter Try.func8, Try.ntmps8
  go_wp2_with fail
  refine HC.out.mono ?_
  rintro e w1 ⟨v, rfl, hown, hb⟩
  rw [HO.out] at hown
  rw [HE.out]
  obtain ⟨A1, c1, rfl, hrd⟩ := hown.open_
  have hs1 : (convert 24 9 (.slice A1 4 c1)).run Try.prog w1 = .ok (.string ⟨#[3, 0, 0, 3]⟩) w1 := run_str (P := Try.prog) w1 _ 24 9 5 Try.underlying24 Try.underlying5 Try.underlying9 A1 _ c1 _ hrd
  have HB := Lib.hid ((Below.refl w.heap.size w).alloc (Nat.le_refl _) (.cells #[.int .i64 0, .int .i64 1, .int .i64 5] 3) |>.trans (hb.mono (by simp)))
  clear hown hrd hb
  go_wp2
  go_ret
  exact ⟨rfl, HB.out⟩

set_option maxHeartbeats 1000000 in
theorem postReads_any (A : Option Addr) (n c : Nat) (p : List UInt8) (at_ below : Int) (w : World) (h : Rd w w.heap.size A n c p) (h1 : -9223372036854775808 ≤ at_) (h2 : at_ ≤ 9223372036854775807) (h3 : -9223372036854775808 ≤ below) (h4 : below ≤ 9223372036854775807) (hc : c ≤ 1048576) :
    Calls Try.prog 4 #[.slice A n c, .int .i64 at_, .int .i64 below] w (SaysB true w) := by
  have hroom : p.length * 8 ≤ 140737488355328 := by have := h.len; have := h.cap; omega
  have HR := Lib.hid h
  go_enter Try.func4, Try.ntmps4
  go_wp2_with fail
  refine (awake8_any w).mono ?_
  rintro e w1 ⟨rfl, hb1⟩
  go_wp2_with fail
  refine (decode_any A n c p at_ below w1 ((HR.out.below hb1).more hb1.size) h1 h2 h3 h4 (.inr hroom)).mono ?_
  rintro e w2 ⟨v2, rfl, ho2, hb2⟩
  have hb02 := hb1.trans (hb2.mono hb1.size)
  obtain ⟨A2, n2, c2, rfl, HN2, hc2, hm2⟩ := own_form ho2
  have HR2 := Lib.hid ho2.rd
  clear ho2 hb2 hb1
  go_wp2_with fail
  refine (ref_decode_any A n c p at_ below w2 ((HR.out.below hb02).more hb02.size) h1 h2 h3 h4 (.inr hroom)).mono ?_
  rintro e w3 ⟨v3, rfl, ho3, hb3⟩
  have hb03 := hb02.trans (hb3.mono hb02.size)
  obtain ⟨A3, n3, c3, rfl, HN3, hc3, hm3⟩ := own_form ho3
  have HR3 := Lib.hid ho3.rd
  have HR23 := Lib.hid (HR2.out.below hb3)
  clear ho3 hb3 hb02
  generalize M.dec p at_ below = r at *
  go_wp2_with fail
  refine (same_any A2 n2 c2 _ r.1 A3 n3 c3 _ r.1 w3 HR23.out HR3.out).mono ?_
  rintro e w4 ⟨rfl, hb4⟩
  have HB := Lib.hid (hb03.trans (hb4.mono hb03.size))
  clear hb4 hb03
  rw [show decide (r.1 = r.1) = true from by simp]
  go_wp2
  go_ret
  exact ⟨rfl, HB.out⟩
end Go.Proofs.Ytpcodknhjobmdaa
