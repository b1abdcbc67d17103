/-
  The law PackNumbers, by the contracts: for every number with and without a sign the call returns true, and what was there has not turned.
-/
import Derived.Test.YtbilcokmdghioaaPackF
import Derived.Deep.RegionHeld
namespace Go.Proofs.Ytbilcokmdghioaa
open Go.RowKit Mem

set_option maxRecDepth 100000 in
set_option maxHeartbeats 4000000 in
theorem packNumbers_any (u : Nat) (v : Int) (w : World) (hu : u < 18446744073709551616) (h1 : -9223372036854775808 ≤ v) (h2 : v ≤ 9223372036854775807) :
    Calls Try.prog 3 #[.int .u64 u, .int .i64 v] w (Yes w) := by
  have hzr := M.zig_range v h1 h2
  have hgr := M.zag_range (u : Int) (by omega) (by omega)
  go_enter Try.func3, Try.ntmps3
  go_wp2_with fail
  refine (awake_any w).mono ?_
  rintro e w1 ⟨rfl, hb1⟩
  go_wp2_with fail
  refine (uvarint_any u w1 hu).mono ?_
  rintro e w2 ⟨p, rfl, hown, hb2⟩
  obtain ⟨A1, c1, rfl, hrd⟩ := hown.open_
  have hlen := M.uv_len u
  go_wp2_with fail
  refine (readUvarint_any A1 _ c1 _ (M.uv u) 0 w2 hrd (by omega) (by omega)).mono ?_
  rintro e w3 ⟨rfl, rfl⟩
  have hrd0 : M.rdAt (M.uv u) 0 = (u, (M.uv u).length, 0) := by
    have := M.rdAt_uv [] [] u hu
    simpa using this
  rw [hrd0]
  clear hrd0
  have hzz := M.zag_zig v
  have hgg := M.zig_zag (u : Int) (by omega)
  go_wp2_with fail
  go_region_held (fun W => (convert 24 9 (.slice A1 (M.uv u).length c1)).run Try.prog W = .ok (.string ⟨(M.uv u).toArray⟩) W)
    (first
      | exact hHeld
      | exact run_str (P := Try.prog) _ _ 24 9 5 Try.underlying24 Try.underlying5 Try.underlying9 A1 _ c1 _ hrd.drew
      | exact run_str (P := Try.prog) _ _ 24 9 5 Try.underlying24 Try.underlying5 Try.underlying9 A1 _ c1 _ hk)
    (first
      | (go_at_call 14; refine (ref_uvarint_any u _ hu).mono ?_; rintro e w4 ⟨q, rfl, hown4, hb4⟩; obtain ⟨A4, c4, rfl, hrd4⟩ := hown4.open_; have hk := hrd.drew.below hb4; have hs4 := run_str (P := Try.prog) w4 _ 24 9 5 Try.underlying24 Try.underlying5 Try.underlying9 A4 _ c4 _ hrd4)
      | (go_at_call 15; refine (zig_any _ _ (by omega) (by omega)).mono ?_; rintro e w5 ⟨rfl, rfl⟩)
      | (go_at_call 16; refine (ref_zig_any _ _ (by omega) (by omega)).mono ?_; rintro e w5 ⟨rfl, rfl⟩)
      | (go_at_call 17; refine (zag_any _ _ (by omega) (by omega)).mono ?_; rintro e w5 ⟨rfl, rfl⟩)
      | (go_at_call 18; refine (ref_zag_any _ _ (by omega) (by omega)).mono ?_; rintro e w5 ⟨rfl, rfl⟩))
  go_wp2
  go_ret
  exact ⟨rfl, (hb1.trans (hb2.mono hb1.size)).trans ((below_undrew hb4).mono (Nat.le_trans hb1.size hb2.size))⟩
end Go.Proofs.Ytbilcokmdghioaa
