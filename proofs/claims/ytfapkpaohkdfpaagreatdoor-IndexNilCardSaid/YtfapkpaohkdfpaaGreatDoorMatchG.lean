/-
  match.Has by a contract; the document's example ('awake').
-/
import Derived.Test.YtfapkpaohkdfpaaGreatDoorMatchF
namespace Go.Proofs.YtfapkpaohkdfpaaGreatDoor
open Go.RowKit Mem
set_option linter.unusedVariables false
set_option maxRecDepth 100000

set_option maxHeartbeats 2000000 in
theorem has_of (q : Q) (d : M.D) (w : World) (hC : Answers w d q) :
    Calls Tryz.prog 58 #[q.val, dval d] w (SaysB (q.has d.time (M.terms d.text)) w) := by
  have HC := Lib.hid hC
  obtain ⟨k, t, z, A, n, c, ks⟩ := q
  obtain ⟨id, tm, text⟩ := d
  obtain ⟨K, hK⟩ : ∃ K : Int, (k : Int) = K := ⟨_, rfl⟩
  have HB1 := Lib.hid ((Below.refl w.heap.size w).alloc (Nat.le_refl _) (.cells #[.int .u8 K, .string ⟨t.toArray⟩, .int .i64 z, .slice A n c] 25))
  have HB2 := Lib.hid (HB1.out.alloc HB1.out.size (.cells #[.string ⟨id.toArray⟩, .int .i64 tm, .string ⟨text.toArray⟩] 40))
  have HB3 := Lib.hid (HB2.out.alloc HB2.out.size (.cells #[.string ⟨id.toArray⟩, .int .i64 tm, .string ⟨text.toArray⟩, .slice none 0 0, .bool false] 124))
  have HA := Lib.hid (show AskAt (((w.alloc (.cells #[.int .u8 K, .string ⟨t.toArray⟩, .int .i64 z, .slice A n c] 25)).alloc (.cells #[.string ⟨id.toArray⟩, .int .i64 tm, .string ⟨text.toArray⟩] 40)).alloc (.cells #[.string ⟨id.toArray⟩, .int .i64 tm, .string ⟨text.toArray⟩, .slice none 0 0, .bool false] 124)) (w.heap.size + 1 + 1) ⟨id, tm, text⟩ from
    ⟨false, none, 0, 0, by
      have h := heap_alloc_new ((w.alloc (.cells #[.int .u8 K, .string ⟨t.toArray⟩, .int .i64 z, .slice A n c] 25)).alloc (.cells #[.string ⟨id.toArray⟩, .int .i64 tm, .string ⟨text.toArray⟩] 40)) (.cells #[.string ⟨id.toArray⟩, .int .i64 tm, .string ⟨text.toArray⟩, .slice none 0 0, .bool false] 124)
      simpa using h, fun h => by cases h⟩)
  have HC2 := Lib.hid (HC.out (w.heap.size + 1 + 1) _ (by omega) HB3.out HA.out)
  unfold Q.val at HC2 ⊢
  unfold dval
  simp only at HC2 ⊢
  rw [hK] at HC2 ⊢
  clear hC HC HA HB1 HB2 HB3
  generalize Q.has tm (M.terms text) (.mk k t z A n c ks) = b at *
  clear hK
  go_enter Tryz.func58, Tryz.ntmps58
  go_wp2_with fail
  refine HC2.out.mono ?_
  rintro e w2 ⟨rfl, _, hb2⟩
  have HB := Lib.hid hb2
  clear hb2
  go_wp2
  go_ret
  exact ⟨rfl, HB.out⟩

theorem has_any (q : Q) (d : M.D) (w : World) (hT : Tabs w) (hs : d.text.length ≤ 1073741824) (hq : Q.Ok w w.heap.size q) :
    Calls Tryz.prog 58 #[q.val, dval d] w (SaysB (q.has d.time (M.terms d.text)) w) := has_of q d w (answers_any w d hT hs hq)

/-- match.Has at a time: the text is not looked at -/
theorem time_any (k : Nat) (K : Int) (z : Int) (d : M.D) (w : World) (hk : k = 6 ∨ k = 7) (hK : (k : Int) = K) {b : Bool} (hb : Q.has d.time (M.terms d.text) (.mk k [] z none 0 0 []) = b) :
    Calls Tryz.prog 58 #[.agg #[.int .u8 K, .string ⟨#[]⟩, .int .i64 z, .slice none 0 0], dval d] w (SaysB b w) := by
  have h := has_of (.mk k [] z none 0 0 []) d w (answers_time w d k [] z none 0 0 [] hk)
  rw [hb] at h
  unfold Q.val at h
  simp only at h
  rwa [hK] at h
/-- a query with no kids -/
theorem leaf_ok (w : World) (B k : Nat) (t : List UInt8) (z : Int) (hk : k < 256) (hz : -9223372036854775808 ≤ z ∧ z ≤ 9223372036854775807) : Q.Ok w B (.mk k t z none 0 0 []) :=
  .mk hk hz ⟨rfl, Nat.le_refl _, by omega, fun h => absurd h (by omega)⟩ (fun q h => by simp at h)
/-- match.Has at a query with no kids -/
theorem leaf_any (k : Nat) (K : Int) (t : List UInt8) (z : Int) (d : M.D) (w : World) (hT : Tabs w) (hs : d.text.length ≤ 1073741824) (hk : k < 256) (hz : -9223372036854775808 ≤ z ∧ z ≤ 9223372036854775807) (hK : (k : Int) = K) {b : Bool} (hb : Q.has d.time (M.terms d.text) (.mk k t z none 0 0 []) = b) :
    Calls Tryz.prog 58 #[.agg #[.int .u8 K, .string ⟨t.toArray⟩, .int .i64 z, .slice none 0 0], dval d] w (SaysB b w) := by
  have h := has_any (.mk k t z none 0 0 []) d w hT hs (leaf_ok w _ k t z hk hz)
  rw [hb] at h
  unfold Q.val at h
  simp only at h
  rwa [hK] at h

/-- an entry that lies in block g -/
def DocIn (W : World) (g : Nat) (d : M.D) : Prop := W.heap[g]? = some (.cells #[.string ⟨d.id.toArray⟩, .int .i64 d.time, .string ⟨d.text.toArray⟩] 40 (0, 0))
theorem DocIn.new (w : World) (d : M.D) : DocIn (w.alloc (.cells #[.string ⟨d.id.toArray⟩, .int .i64 d.time, .string ⟨d.text.toArray⟩] 40)) w.heap.size d := heap_alloc_new w _
theorem DocIn.on {W W' : World} {g : Nat} {d : M.D} (h : DocIn W g d) (hb : Below W.heap.size W W') : DocIn W' g d := (hb.block g (heapLt h)).trans h
theorem DocIn.cells {W : World} {g : Nat} {d : M.D} (h : DocIn W g d) : W.cell? ⟨g, 0, none⟩ = some (.string ⟨d.id.toArray⟩) ∧ W.cell? ⟨g, 1, none⟩ = some (.int .i64 d.time) ∧ W.cell? ⟨g, 2, none⟩ = some (.string ⟨d.text.toArray⟩) := ⟨cellAt 0 h, cellAt 1 h, cellAt 2 h⟩

def exDoc : M.D := ⟨[97], 3, [82, 101, 100]⟩
theorem ex_red : M.terms [82, 101, 100] = [[114, 101, 100]] := by decide +kernel

end Go.Proofs.YtfapkpaohkdfpaaGreatDoor
