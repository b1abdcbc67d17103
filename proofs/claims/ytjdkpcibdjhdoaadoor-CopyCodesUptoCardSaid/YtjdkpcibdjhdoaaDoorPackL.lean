/-
  What the two Texts do, by contracts: each answers, in new memory, the text's length and its bytes.
-/
import Derived.Test.YtjdkpcibdjhdoaaDoorPackG
import Derived.Deep.RegionHeld
namespace Go.Proofs.YtjdkpcibdjhdoaaDoor
open Go.RowKit Mem

set_option maxRecDepth 100000 in
set_option maxHeartbeats 1000000 in
theorem text_any (s : ByteArray) (w : World) (hs : s.size ≤ 140737488355000) : Calls Tryd.prog 47 #[.string s] w (GivesP w (M.text s.data.toList)) := by
  obtain ⟨i0, hi, hz0, hz1, hz2⟩ := info_parts Tryd.info_byte
  have HI := Lib.hid hi; have HZ0 := Lib.hid hz0; have HZ1 := Lib.hid hz1; have HZ2 := Lib.hid hz2
  clear hi hz0 hz1 hz2
  have hul := M.uv_len s.size
  go_enter Tryd.func47, Tryd.ntmps47
  go_wp2_with fail
  refine (uvarint_any s.size _ (by omega)).mono ?_
  rintro e w1 ⟨q, rfl, hq, hb1⟩
  go_wp2_with (at_builtin; go_must (refine wpList_appS w1 rfl (.tmp 6) (.tmp 7) _ _ rfl w.heap.size _ i0 Tryd.underlying27 Tryd.underlying9 HI.out HZ0.out HZ1.out HZ2.out _ _ hq rfl s rfl ?_ hb1.size ?_))
  · omega
  intro v2 w2 hv2 hg2
  go_wp2
  go_ret
  refine ⟨_, rfl, ?_, hb1.trans (below_own hq hb1.size hg2)⟩
  have e : M.text s.data.toList = M.uv s.size ++ s.data.toList := by simp [M.text]
  rw [e]
  exact hv2

set_option maxRecDepth 100000 in
set_option maxHeartbeats 1000000 in
theorem ref_text_any (s : ByteArray) (w : World) (hs : s.size ≤ 140737488355000) : Calls Tryd.prog 25 #[.string s] w (GivesP w (M.text s.data.toList)) := by
  obtain ⟨i0, hi, hz0, hz1, hz2⟩ := info_parts Tryd.info_byte
  have HI := Lib.hid hi; have HZ0 := Lib.hid hz0; have HZ1 := Lib.hid hz1; have HZ2 := Lib.hid hz2
  clear hi hz0 hz1 hz2
  have hul := M.uv_len s.size
  go_enter Tryd.func25, Tryd.ntmps25
  go_wp2_with fail
  refine (ref_uvarint_any s.size _ (by omega)).mono ?_
  rintro e w1 ⟨q, rfl, hq, hb1⟩
  go_wp2_with (at_builtin; go_must (refine wpList_appS w1 rfl (.tmp 8) (.tmp 9) _ _ rfl w.heap.size _ i0 Tryd.underlying27 Tryd.underlying9 HI.out HZ0.out HZ1.out HZ2.out _ _ hq rfl s rfl ?_ hb1.size ?_))
  · omega
  intro v2 w2 hv2 hg2
  go_wp2
  go_ret
  refine ⟨_, rfl, ?_, hb1.trans (below_own hq hb1.size hg2)⟩
  have e : M.text s.data.toList = M.uv s.size ++ s.data.toList := by simp [M.text]
  rw [e]
  exact hv2

end Go.Proofs.YtjdkpcibdjhdoaaDoor
