/-
  The document's Dec of longer numbers, by a contract.
-/
import Derived.Test.YtdbinhbmhkbfeaaGreatDoorHttpDc
namespace Go.Proofs.YtdbinhbmhkbfeaaGreatDoor
open Go.RowKit Mem Go.ChangeShapes
set_option linter.unusedVariables false
set_option maxRecDepth 100000

set_option maxHeartbeats 2000000 in
theorem dec15_any : ∀ (k : Nat) (w : World), k < 1000000000000000 → Calls Tryz.prog 14 #[.int .i64 (k : Int)] w (SaysT (Lib.decDigits k) w) := by
  intro k
  induction k using Nat.strongRecOn with
  | ind k ih =>
    intro w hk
    by_cases h10 : k < 10
    · have HD := Lib.hid (M.dec_small h10)
      have hw : IntKind.i64.wrap (48 + (k : Int)) = 48 + (k : Int) := by rw [IntKind.wrap_i64]; omega
      have hw2 : IntKind.u8.wrap (48 + (k : Int)) = 48 + (k : Int) := by rw [IntKind.wrap_u8]; omega
      have hcv := digit_conv (W := w.alloc (.cells #[.int .u8 (48 + (k : Int))] 5)) (b := w.heap.size) (t := 5) (fr := (0, 0)) h10 (heap_alloc_new w _)
      clear ih
      obtain ⟨T, hT⟩ : ∃ T : ByteArray, T = ⟨[UInt8.ofNat (48 + k)].toArray⟩ := ⟨_, rfl⟩
      rw [← hT] at hcv
      have HTT := Lib.hid hT
      clear hT
      go_enter Tryz.func14, Tryz.ntmps14
      go_wp2
      go_ret
      exact ⟨by rw [HD.out, ← HTT.out]; rfl, (Below.refl _ w).alloc (Nat.le_refl _) _⟩
    · have HD := Lib.hid (M.dec_big h10)
      have HIH := Lib.hid (fun W => ih (k / 10) (by omega) W (by omega))
      have hq : (k : Int).tdiv 10 = ((k / 10 : Nat) : Int) := by rw [Int.tdiv_eq_ediv_of_nonneg (by omega)]; omega
      have hm : (k : Int).tmod 10 = ((k % 10 : Nat) : Int) := by rw [Int.tmod_eq_emod_of_nonneg (by omega)]; omega
      have hd10 : k % 10 < 10 := Nat.mod_lt _ (by omega)
      clear ih
      obtain ⟨d, hd⟩ : ∃ d, d = k % 10 := ⟨_, rfl⟩
      obtain ⟨q, hqq⟩ : ∃ q, q = k / 10 := ⟨_, rfl⟩
      rw [← hd] at hm hd10 HD
      rw [← hqq] at hq HIH HD
      have hq9 : q < 1000000000000000 := by omega
      clear hd hqq
      have hw : IntKind.i64.wrap (48 + (d : Int)) = 48 + (d : Int) := by rw [IntKind.wrap_i64]; omega
      have hw2 : IntKind.u8.wrap (48 + (d : Int)) = 48 + (d : Int) := by rw [IntKind.wrap_u8]; omega
      go_enter Tryz.func14, Tryz.ntmps14
      go_wp2_with fail
      have hwq : IntKind.i64.wrap (q : Int) = (q : Int) := by rw [IntKind.wrap_i64]; omega
      obtain ⟨T, hT⟩ : ∃ T : ByteArray, T = ⟨[UInt8.ofNat (48 + d)].toArray⟩ := ⟨_, rfl⟩
      obtain ⟨R, hR⟩ : ∃ R : ByteArray, R = ⟨(Lib.decDigits q).toArray⟩ := ⟨_, rfl⟩
      have hsz : R.size + T.size ≤ 9223372036854775807 := by
        have h1 : R.size = (Lib.decDigits q).length := by rw [hR]; rfl
        have h2 : T.size = 1 := by rw [hT]; rfl
        have h3 := M.dec_len (n := q) (k := 15) (by omega) (by omega)
        omega
      have hszn : ¬ 9223372036854775807 < R.size + T.size := by omega
      have HTT := Lib.hid hT; have HRR := Lib.hid hR
      have HDC := Lib.hid (show ∀ (W : World) (b : Nat) (t : TypeId) (fr : Nat × Nat), W.heap[b]? = some (.cells #[.int .u8 (48 + (d : Int))] t fr) → (convert 52 9 (.slice (some ⟨b, 0, none⟩) 1 1)).run Tryz.prog W = .ok (.string T) W from fun W b t fr hh => by rw [hT]; exact digit_conv hd10 hh)
      have HCA := Lib.hid (show ∀ W, Calls Tryz.prog 14 #[.int .i64 (q : Int)] W (fun e w' => ∃ x : Unit, e = .returned (.string R) ∧ Below W.heap.size W w') from fun W => (HIH.out W).mono fun e w' h => ⟨(), by rw [hR]; exact h.1, h.2⟩)
      clear hT hR HIH
      have hcvA := HDC.out (w.alloc (.cells #[.int .u8 (48 + (d : Int))] 5)).drew w.heap.size _ _ (heap_alloc_new w _)
      have HBA := Lib.hid (show Below w.heap.size w (w.alloc (.cells #[.int .u8 (48 + (d : Int))] 5)).drew from by
        have h := (Below.refl w.heap.size w).alloc (Nat.le_refl _) (.cells #[.int .u8 (48 + (d : Int))] 5)
        exact ⟨h.os, h.tape, h.output, h.size, h.block⟩)
      have HHA := Lib.hid (show (w.alloc (.cells #[.int .u8 (48 + (d : Int))] 5)).drew.heap[w.heap.size]? = some (.cells #[.int .u8 (48 + (d : Int))] 5 (0, 0)) from heap_alloc_new w _)
      go_region_law (first
        | (refine step_dec (by rfl) 14 #[.int .i64 (q : Int)] (by simp [Act.eval, go_sem]) (fun _ => .string R) (fun _ w' => Below w.drew.heap.size w.drew w') (HCA.out w.drew) ?_; rintro _ w3 hb3
           have hcv3 := HDC.out (w3.alloc (.cells #[.int .u8 (48 + (d : Int))] 5)) w3.heap.size _ _ (heap_alloc_new w3 _)
           have HF := Lib.hid (show Below w.heap.size w (w3.alloc (.cells #[.int .u8 (48 + (d : Int))] 5)) from (below_undrew hb3).alloc (below_undrew hb3).size _)
           clear hb3)
        | (refine step_dec (by rfl) 14 #[.int .i64 (q : Int)] (by simp [Act.eval, go_sem]) (fun _ => .string R) (fun _ w' => Below (w.alloc (.cells #[.int .u8 (48 + (d : Int))] 5)).drew.heap.size (w.alloc (.cells #[.int .u8 (48 + (d : Int))] 5)).drew w') (HCA.out (w.alloc (.cells #[.int .u8 (48 + (d : Int))] 5)).drew) ?_; rintro _ w3 hb3
           have hcv3 := HDC.out w3 w.heap.size _ _ ((hb3.block w.heap.size (by show w.heap.size < (w.alloc _).heap.size; simp)).trans HHA.out)
           have HF := Lib.hid (show Below w.heap.size w w3 from HBA.out.trans (hb3.mono (by show w.heap.size ≤ (w.alloc _).heap.size; simp)))
           clear hb3))
      all_goals
        go_wp2
        go_ret
        exact ⟨by rw [HD.out, ← bytes_app, ← HTT.out, ← HRR.out]; rfl, HF.out⟩
end Go.Proofs.YtdbinhbmhkbfeaaGreatDoor
