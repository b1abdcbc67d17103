/-
  What pack.Uvarint and the document's Uvarint do, by contracts: each returns, in new memory, the bytes of the number ('M.uv').
-/
import Derived.Test.YtjdkpcibdjhdoaaDoorRows
import Derived.Test.YtjdkpcibdjhdoaaDoorMem
import Derived.Test.YtjdkpcibdjhdoaaDoorPackMath
import Derived.Laws.BitsAllLaws
import Derived.Laws.BitsLemmas
import Derived.Lib.Hide
import Derived.Deep.DeepMust
namespace Go.Proofs.YtjdkpcibdjhdoaaDoor
open Go.RowKit Mem

theorem Tryd.info_byte : (Tryd.prog.info? 5).map (fun i => (i.zero, i.size, i.bytes)) = some (some (.int .u8 0), 1, 1) := by kernel_rfl

theorem or128 (k : Nat) : bits .or .u8 ((k : Int) % 256) 128 = ((k % 128 + 128 : Nat) : Int) := by
  have h : ∀ x : Fin 256, x.val ||| 128 = x.val % 128 + 128 := by decide +kernel
  have h1 := h ⟨k % 256, Nat.mod_lt _ (by omega)⟩
  have e : ((k : Int) % 256) = ((k % 256 : Nat) : Int) := by omega
  rw [e, show (128 : Int) = ((128 : Nat) : Int) from rfl, u8_or_nat _ _ (Nat.mod_lt _ (by omega)) (by omega), h1]
  simp only [Nat.mod_mod_of_dvd k (show 128 ∣ 256 from ⟨2, rfl⟩)]

/-- what is left of a number behind some of its bytes -/
def Left (v u : Nat) (l : List UInt8) : Prop := ∃ f, M.uv v = l ++ M.uvF f u ∧ u < 2 ^ (7 * f + 1) ∧ l.length + f = 9
theorem Left.start {v : Nat} (h : v < 18446744073709551616) : Left v v [] := ⟨9, rfl, by simpa using h, rfl⟩
theorem Left.step {v u : Nat} {l : List UInt8} (h : Left v u l) (hu : 127 < u) : Left v (u / 128) (l ++ [M.hb u]) ∧ l.length ≤ 9 := by
  obtain ⟨f, h1, h2, h3⟩ := h
  cases f with
  | zero => simp at h2; omega
  | succ f =>
    refine ⟨⟨f, ?_, ?_, by simp; omega⟩, by omega⟩
    · rw [h1, M.uvF_big _ _ (by omega)]; simp [M.hb]
    · have e : 2 ^ (7 * (f + 1) + 1) = 128 * 2 ^ (7 * f + 1) := by
        rw [show 7 * (f + 1) + 1 = (7 * f + 1) + 7 from by omega, Nat.pow_add]; omega
      rw [e] at h2; omega
theorem Left.last {v u : Nat} {l : List UInt8} (h : Left v u l) (hu : ¬ 127 < u) : M.uv v = l ++ [M.lb u] ∧ l.length ≤ 9 := by
  obtain ⟨f, h1, _, h3⟩ := h
  exact ⟨by rw [h1, M.uvF_small _ _ (by omega)]; rfl, by omega⟩

/-- new bytes l, and nothing that was there has turned -/
def GivesP (w : World) (l : List UInt8) (e : Ending) (w' : World) : Prop := ∃ v, e = .returned v ∧ Own w' w.heap.size 5 v l ∧ Below w.heap.size w w'

set_option maxRecDepth 100000 in
set_option maxHeartbeats 400000 in
theorem uvarint_any (v : Nat) (w : World) (hv : v < 18446744073709551616) :
    Calls Tryd.prog 46 #[.int .u64 v] w (GivesP w (M.uv v)) := by
  obtain ⟨i0, hi, hz0, hz1, hz2⟩ := info_parts Tryd.info_byte
  have HI := Lib.hid hi; have HZ0 := Lib.hid hz0; have HZ1 := Lib.hid hz1; have HZ2 := Lib.hid hz2
  clear hi hz0 hz1 hz2
  go_enter Tryd.func46, Tryd.ntmps46
  go_wp2
  go_loopw [0, 3] (fun u p wr => ∃ (k : Nat) (l : List UInt8), u = .int .u64 k ∧ k < 18446744073709551616 ∧ Left v k l ∧ Own wr w.heap.size 5 p l ∧ Below w.heap.size w wr) (fun u _ _ => (intOf u).toNat)
  case atStart => exact ⟨v, [], rfl, hv, Left.start hv, Own.nil _ _ _, Below.refl _ _⟩
  case round =>
    obtain ⟨k, l, rfl, hk, hleft, hown, hbel⟩ := hrel
    have HOR := Lib.hid (or128 k)
    by_cases h : 127 < k
    · obtain ⟨hl', hlen⟩ := hleft.step h
      have hdiv : k / 128 < k := by omega
      go_wp2_with (at_builtin; go_must (refine wpList_app1 wr rfl (.tmp 6) (.tmp 10) _ rfl w.heap.size _ i0 Tryd.underlying27 HI.out HZ0.out HZ1.out HZ2.out _ l hown rfl _ (M.hb k) rfl ?_ ?_ hbel.size ?_))
      · rw [HOR.out, M.hb_toNat]
      · omega
      intro v' w1 hown' hg hat
      have hb1 := hbel.trans (below_own hown hbel.size hg)
      go_wp2
      go_roundw
      case rel => exact ⟨k / 128, _, by go_num, by omega, hl', hown', hb1⟩
      case measure => simp [intOf]; omega
    · obtain ⟨hl', hlen⟩ := hleft.last h
      have HL := Lib.hid hl'
      clear hl'
      go_wp2_with (at_builtin; go_must (refine wpList_app1 wr rfl (.tmp 14) (.tmp 17) _ rfl w.heap.size _ i0 Tryd.underlying27 HI.out HZ0.out HZ1.out HZ2.out _ l hown rfl _ (M.lb k) rfl ?_ ?_ hbel.size ?_))
      · rw [M.lb_toNat (by omega)]
      · omega
      intro v' w1 hown' hg hat
      have hb1 := hbel.trans (below_own hown hbel.size hg)
      go_wp2
      go_ret
      exact ⟨_, rfl, by rw [HL.out]; exact hown', hb1⟩

set_option maxRecDepth 100000 in
set_option maxHeartbeats 400000 in
theorem ref_uvarint_any (v : Nat) (w : World) (hv : v < 18446744073709551616) :
    Calls Tryd.prog 24 #[.int .u64 v] w (GivesP w (M.uv v)) := by
  obtain ⟨i0, hi, hz0, hz1, hz2⟩ := info_parts Tryd.info_byte
  have HI := Lib.hid hi; have HZ0 := Lib.hid hz0; have HZ1 := Lib.hid hz1; have HZ2 := Lib.hid hz2
  clear hi hz0 hz1 hz2
  go_enter Tryd.func24, Tryd.ntmps24
  go_wp2
  go_loopw [0, 3] (fun u p wr => ∃ (k : Nat) (l : List UInt8), u = .int .u64 k ∧ k < 18446744073709551616 ∧ Left v k l ∧ Own wr w.heap.size 5 p l ∧ Below w.heap.size w wr) (fun u _ _ => (intOf u).toNat)
  case atStart => exact ⟨v, [], rfl, hv, Left.start hv, Own.nil _ _ _, Below.refl _ _⟩
  case round =>
    obtain ⟨k, l, rfl, hk, hleft, hown, hbel⟩ := hrel
    by_cases h : 128 ≤ k
    · obtain ⟨hl', hlen⟩ := hleft.step (show 127 < k from h)
      have hdiv : k / 128 < k := by omega
      go_wp2_with (at_builtin; go_must (refine wpList_app1 wr rfl (.tmp 6) (.tmp 11) _ rfl w.heap.size _ i0 Tryd.underlying27 HI.out HZ0.out HZ1.out HZ2.out _ l hown rfl _ (M.hb k) rfl ?_ ?_ hbel.size ?_))
      · rw [M.hb_toNat]; omega
      · omega
      intro v' w1 hown' hg hat
      have hb1 := hbel.trans (below_own hown hbel.size hg)
      go_wp2
      go_roundw
      case rel => exact ⟨k / 128, _, by go_num, by omega, hl', hown', hb1⟩
      case measure => simp [intOf]; omega
    · obtain ⟨hl', hlen⟩ := hleft.last (show ¬ 127 < k from h)
      have HL := Lib.hid hl'
      clear hl'
      go_wp2_with (at_builtin; go_must (refine wpList_app1 wr rfl (.tmp 15) (.tmp 18) _ rfl w.heap.size _ i0 Tryd.underlying27 HI.out HZ0.out HZ1.out HZ2.out _ l hown rfl _ (M.lb k) rfl ?_ ?_ hbel.size ?_))
      · rw [M.lb_toNat (by omega)]
      · omega
      intro v' w1 hown' hg hat
      have hb1 := hbel.trans (below_own hown hbel.size hg)
      go_wp2
      go_ret
      exact ⟨_, rfl, by rw [HL.out]; exact hown', hb1⟩
end Go.Proofs.YtjdkpcibdjhdoaaDoor
