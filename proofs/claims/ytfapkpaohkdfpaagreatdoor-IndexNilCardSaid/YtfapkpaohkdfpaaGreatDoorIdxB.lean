/-
  The index's methods at nil; New, by contracts.
-/
import Derived.Test.YtfapkpaohkdfpaaGreatDoorIdxA
namespace Go.Proofs.YtfapkpaohkdfpaaGreatDoor
open Go.RowKit Mem
set_option linter.unusedVariables false
set_option maxRecDepth 100000

theorem idxLen_nil (w : World) : Calls Tryz.prog 15 #[.pointer none] w (fun e w' => e = .returned (.int .i64 0) ∧ w' = w) := by
  go_enter Tryz.func15, Tryz.ntmps15
  go_wp2
  go_ret
  exact ⟨rfl, rfl⟩
theorem idxSegs_nil (w : World) : Calls Tryz.prog 17 #[.pointer none] w (fun e w' => e = .returned (.slice none 0 0) ∧ w' = w) := by
  go_enter Tryz.func17, Tryz.ntmps17
  go_wp2
  go_ret
  exact ⟨rfl, rfl⟩
theorem idxGet_nil (s : ByteArray) (w : World) : Calls Tryz.prog 18 #[.pointer none, .string s] w (fun e w' => e = .returned (.tuple #[.int .i64 0, .int .i64 8]) ∧ w' = w) := by
  go_enter Tryz.func18, Tryz.ntmps18
  go_wp2
  go_ret2
  exact ⟨rfl, rfl⟩
theorem idxBytes_nil (i : Int) (w : World) : Calls Tryz.prog 20 #[.pointer none, .int .i64 i] w (fun e w' => e = .returned (.tuple #[.slice none 0 0, .int .i64 8]) ∧ w' = w) := by
  go_enter Tryz.func20, Tryz.ntmps20
  go_wp2
  go_ret2
  exact ⟨rfl, rfl⟩
theorem idxAdd_nil (d : M.D) (w : World) : Calls Tryz.prog 13 #[.pointer none, dval d] w (fun e w' => e = .returned (.tuple #[.int .i64 0, .int .i64 8]) ∧ Below w.heap.size w w') := by
  obtain ⟨id, tm, text⟩ := d
  unfold dval
  simp only
  have HB1 := Lib.hid ((Below.refl w.heap.size w).alloc (Nat.le_refl _) (.cells #[.string ⟨id.toArray⟩, .int .i64 tm, .string ⟨text.toArray⟩] 40))
  go_enter Tryz.func13, Tryz.ntmps13
  go_wp2
  go_ret2
  exact ⟨rfl, HB1.out⟩
theorem idxFind_nil (q : Q) (u : Int) (w : World) : Calls Tryz.prog 22 #[.pointer none, q.val, .int .i64 u] w (fun e w' => e = .returned (.tuple #[.slice none 0 0, .int .i64 8]) ∧ Below w.heap.size w w') := by
  obtain ⟨k, t, z, A, n, c, ks⟩ := q
  unfold Q.val
  simp only
  obtain ⟨K, hK⟩ : ∃ K : Int, (k : Int) = K := ⟨_, rfl⟩
  rw [hK]
  clear hK
  have HB1 := Lib.hid ((Below.refl w.heap.size w).alloc (Nat.le_refl _) (.cells #[.int .u8 K, .string ⟨t.toArray⟩, .int .i64 z, .slice A n c] 25))
  go_enter Tryz.func22, Tryz.ntmps22
  go_wp2
  go_ret2
  exact ⟨rfl, HB1.out⟩

/-- New with two numbers that may be: a map of its own, an index of its own -/
theorem idxNew_any (f m : Int) (hf : 1 ≤ f ∧ f ≤ 64) (hm : 2 ≤ m ∧ m ≤ 8) (w : World) : Calls Tryz.prog 11 #[.int .i64 f, .int .i64 m] w (fun e w' => e = .returned (.tuple #[.pointer (some ⟨w.heap.size + 1, 0, none⟩), .int .i64 0]) ∧
    w' = (w.alloc (.map #[] 0)).alloc (.cells #[.int .i64 f, .int .i64 m, .map (some w.heap.size), .slice none 0 0, .slice none 0 0] 66)) := by
  have h1 : ¬ f < 1 := by omega
  have h2 : ¬ 64 < f := by omega
  have h3 : ¬ m < 2 := by omega
  have h4 : ¬ 8 < m := by omega
  go_enter Tryz.func11, Tryz.ntmps11
  go_wp2_with fail
  rw [run_makeMap]
  go_wp2
  go_ret2
  exact ⟨rfl, rfl⟩
end Go.Proofs.YtfapkpaohkdfpaaGreatDoor
