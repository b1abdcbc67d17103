/-
  cmp.Compare, cmp.Or, match.Order and the document's Ahead at a seat without words and queries: by contracts.
-/
import Derived.Test.YtpnhjcedhcgglaaChecked
import Derived.Test.YtpnhjcedhcgglaaRows
import Derived.Test.YtpnhjcedhcgglaaTurn
import Derived.Test.YtpnhjcedhcgglaaMergeMath
import Derived.Test.YtpnhjcedhcgglaaMemW
import Derived.Lib.Hide
import Derived.Deep.DeepMust
import Derived.Deep.AppendLies
import Derived.Great.BuildSlice
import Derived.BigQuiet
import Derived.Deep.QuietTactic
import Derived.Deep.RegionHeld3
import Derived.Sort.Walk0
namespace Go.Proofs.Ytpnhjcedhcgglaa
open Go.RowKit Mem
set_option linter.unusedVariables false
set_option maxRecDepth 100000

def SaysB (b : Bool) (w : World) (e : Ending) (w' : World) : Prop := e = .returned (.bool b) ∧ Below w.heap.size w w'
theorem beq_str (a b : List UInt8) : (a == b) = decide (a = b) := by rw [Bool.eq_iff_iff]; simp
def GivesB (b : Bool) (w : World) (e : Ending) (w' : World) : Prop := e = .returned (.bool b) ∧ w = w'
def GivesZ (z : Int) (w : World) (e : Ending) (w' : World) : Prop := e = .returned (.int .i64 z) ∧ w = w'

set_option maxHeartbeats 400000 in
theorem cmpNaNs_any (x : List UInt8) (w : World) : Calls Try.prog 23 #[.string ⟨x.toArray⟩] w (GivesB false w) := by
  go_enter Try.func23, Try.ntmps23
  go_wp2
  go_ret
  exact ⟨by simp, rfl⟩
set_option maxHeartbeats 400000 in
theorem cmpNaNi_any (x : Int) (w : World) : Calls Try.prog 22 #[.int .i64 x] w (GivesB false w) := by
  go_enter Try.func22, Try.ntmps22
  go_wp2
  go_ret
  exact ⟨by simp, rfl⟩
set_option maxHeartbeats 400000 in
theorem compareS_any (x y : List UInt8) (w : World) : Calls Try.prog 20 #[.string ⟨x.toArray⟩, .string ⟨y.toArray⟩] w (GivesZ (M.cmpT x y) w) := by
  rcases M.T_tri x y with h | rfl | h
  · have hq : Op.bytesLess x y = true := by rw [bytesLess_eq]; simpa using h
    have HF := Lib.hid (M.cmpT_lt h)
    clear h
    go_enter Try.func20, Try.ntmps20
    go_wp2_with (go_at_call 23; refine (cmpNaNs_any _ _).mono ?_; rintro e w' ⟨rfl, rfl⟩)
    go_ret
    exact ⟨by first | rfl | (rw [HF.out]; rfl), rfl⟩
  · have hq : Op.bytesLess x x = false := by rw [bytesLess_eq]; simp [List.lt_irrefl]
    have HF := Lib.hid (M.cmpT_eq x)
    go_enter Try.func20, Try.ntmps20
    go_wp2_with (go_at_call 23; refine (cmpNaNs_any _ _).mono ?_; rintro e w' ⟨rfl, rfl⟩)
    go_ret
    exact ⟨by first | rfl | (rw [HF.out]; rfl), rfl⟩
  · have hq : Op.bytesLess y x = true := by rw [bytesLess_eq]; simpa using h
    have hq2 : Op.bytesLess x y = false := by
      rw [bytesLess_eq]
      simp only [decide_eq_false_iff_not]
      exact fun h2 => List.lt_irrefl _ (List.lt_trans h h2)
    have hq3 : (x == y) = false := by
      rw [beq_str]
      simp only [decide_eq_false_iff_not]
      intro e; subst e; exact List.lt_irrefl _ h
    have HF := Lib.hid (M.cmpT_gt h)
    clear h
    go_enter Try.func20, Try.ntmps20
    go_wp2_with (go_at_call 23; refine (cmpNaNs_any _ _).mono ?_; rintro e w' ⟨rfl, rfl⟩)
    go_ret
    exact ⟨by first | rfl | (rw [HF.out]; rfl), rfl⟩
set_option maxHeartbeats 400000 in
theorem compareI_any (x y : Int) (w : World) : Calls Try.prog 19 #[.int .i64 x, .int .i64 y] w (GivesZ (M.cmpI x y) w) := by
  rcases Int.lt_trichotomy x y with h | rfl | h
  · have HF := Lib.hid (M.cmpI_lt h)
    go_enter Try.func19, Try.ntmps19
    go_wp2_with (go_at_call 22; refine (cmpNaNi_any _ _).mono ?_; rintro e w' ⟨rfl, rfl⟩)
    go_ret
    exact ⟨by first | rfl | (rw [HF.out]; rfl), rfl⟩
  · have HF := Lib.hid (M.cmpI_eq x)
    go_enter Try.func19, Try.ntmps19
    go_wp2_with (go_at_call 22; refine (cmpNaNi_any _ _).mono ?_; rintro e w' ⟨rfl, rfl⟩)
    go_ret
    exact ⟨by first | rfl | (rw [HF.out]; rfl), rfl⟩
  · have HF := Lib.hid (M.cmpI_gt h)
    have h2 : ¬ x < y := by omega
    go_enter Try.func19, Try.ntmps19
    go_wp2_with (go_at_call 22; refine (cmpNaNi_any _ _).mono ?_; rintro e w' ⟨rfl, rfl⟩)
    go_ret
    exact ⟨by first | rfl | (rw [HF.out]; rfl), rfl⟩

def dval (d : M.D) : Value := .agg #[.string ⟨d.id.toArray⟩, .int .i64 d.time, .string ⟨d.text.toArray⟩]
def SaysZ (z : Int) (w : World) (e : Ending) (w' : World) : Prop := e = .returned (.int .i64 z) ∧ Below w.heap.size w w'
def orZ (x y : Int) : Int := if x ≠ 0 then x else y

set_option maxHeartbeats 400000 in
theorem or2_any (g : Nat) (x y : Int) (w : World) (h0 : w.cell? ⟨g, 0, none⟩ = some (.int .i64 x)) (h1 : w.cell? ⟨g, 1, none⟩ = some (.int .i64 y)) :
    Calls Try.prog 18 #[.slice (some ⟨g, 0, none⟩) 2 2] w (GivesZ (orZ x y) w) := by
  go_enter Try.func18, Try.ntmps18
  go_wp2
  go_loop [8] (fun p => ∃ i : Nat, p = .int .i64 i ∧ i ≤ 2 ∧ (0 < i → x = 0) ∧ (1 < i → y = 0)) (fun p => 2 - (intOf p).toNat)
  case atStart => exact ⟨0, rfl, by omega, by omega, by omega⟩
  case round =>
    obtain ⟨i, rfl, hi, hx, hy⟩ := hrel
    match i, hi with
    | 0, _ =>
      clear hx hy
      by_cases e : x = 0
      · subst e
        go_wp2
        go_round
        case rel => exact ⟨1, by go_num, by omega, by simp, by omega⟩
        case measure => simp [intOf]
      · have hq : (x != 0) = true := by simpa using e
        have HF := Lib.hid (show orZ x y = x by simp [orZ, e])
        clear e
        go_wp2
        go_ret
        exact ⟨by first | rfl | (rw [HF.out]; rfl), rfl⟩
    | 1, _ =>
      obtain rfl := hx (by omega)
      clear hx hy
      by_cases e : y = 0
      · subst e
        go_wp2
        go_round
        case rel => exact ⟨2, by go_num, by omega, by simp, by simp⟩
        case measure => simp [intOf]
      · have hq : (y != 0) = true := by simpa using e
        have HF := Lib.hid (show orZ 0 y = y by simp [orZ])
        clear e
        go_wp2
        go_ret
        exact ⟨by first | rfl | (rw [HF.out]; rfl), rfl⟩
    | 2, _ =>
      obtain rfl := hx (by omega)
      obtain rfl := hy (by omega)
      clear hx hy
      go_wp2
      go_ret
      exact ⟨by rfl, rfl⟩

theorem or2_new (n : Nat) (x y : Int) (w : World) (hn : n = w.heap.size) : Calls Try.prog 18 #[.slice (some ⟨n, 0, none⟩) 2 2] (w.alloc (.cells #[.int .i64 x, .int .i64 y] 3)).drew (GivesZ (orZ x y) (w.alloc (.cells #[.int .i64 x, .int .i64 y] 3)).drew) := by
  subst hn
  exact or2_any _ x y _ (cell_of_row _ w.heap.size 0 _ _ _ (heap_alloc_new w _)) (cell_of_row _ w.heap.size 1 _ _ _ (heap_alloc_new w _))

set_option maxHeartbeats 1000000 in
theorem ahead_any (a b : M.D) (w : World) : Calls Try.prog 13 #[dval a, dval b] w (SaysB (M.ahead a b) w) := by
  obtain ⟨i1, t1, x1⟩ := a
  obtain ⟨i2, t2, x2⟩ := b
  unfold dval
  simp only
  have HB := Lib.hid (((Below.refl w.heap.size w).alloc (Nat.le_refl _) (.cells #[.string ⟨i1.toArray⟩, .int .i64 t1, .string ⟨x1.toArray⟩] 31)).alloc (by simp) (.cells #[.string ⟨i2.toArray⟩, .int .i64 t2, .string ⟨x2.toArray⟩] 31))
  by_cases h1 : t1 < t2
  · have HF := Lib.hid (show M.ahead ⟨i1, t1, x1⟩ ⟨i2, t2, x2⟩ = true by simp [M.ahead, h1])
    have hq : decide (t1 < t2) = true := by simpa using h1
    go_enter Try.func13, Try.ntmps13
    go_wp2
    go_ret
    exact ⟨by first | rfl | (rw [HF.out]; rfl), HB.out⟩
  · have hq : decide (t1 < t2) = false := by simpa using h1
    by_cases h2 : t1 = t2
    · subst h2
      have HF := Lib.hid (show M.ahead ⟨i1, t1, x1⟩ ⟨i2, t1, x2⟩ = Op.bytesLess i1 i2 by rw [bytesLess_eq]; simp [M.ahead])
      go_enter Try.func13, Try.ntmps13
      go_wp2
      go_ret
      exact ⟨by first | rfl | (rw [HF.out]; rfl), HB.out⟩
    · have hq2 : (t1 == t2) = false := by simpa using h2
      have HF := Lib.hid (show M.ahead ⟨i1, t1, x1⟩ ⟨i2, t2, x2⟩ = false by simp [M.ahead, h1, h2])
      clear h2
      go_enter Try.func13, Try.ntmps13
      go_wp2
      go_ret
      exact ⟨by first | rfl | (rw [HF.out]; rfl), HB.out⟩

theorem two_docs (w : World) (a b : M.D) : ((w.alloc (.cells #[.string ⟨a.id.toArray⟩, .int .i64 a.time, .string ⟨a.text.toArray⟩] 31)).alloc (.cells #[.string ⟨b.id.toArray⟩, .int .i64 b.time, .string ⟨b.text.toArray⟩] 31)).cell? ⟨w.heap.size, 0, none⟩ = some (.string ⟨a.id.toArray⟩) ∧
    ((w.alloc (.cells #[.string ⟨a.id.toArray⟩, .int .i64 a.time, .string ⟨a.text.toArray⟩] 31)).alloc (.cells #[.string ⟨b.id.toArray⟩, .int .i64 b.time, .string ⟨b.text.toArray⟩] 31)).cell? ⟨w.heap.size, 1, none⟩ = some (.int .i64 a.time) ∧
    ((w.alloc (.cells #[.string ⟨a.id.toArray⟩, .int .i64 a.time, .string ⟨a.text.toArray⟩] 31)).alloc (.cells #[.string ⟨b.id.toArray⟩, .int .i64 b.time, .string ⟨b.text.toArray⟩] 31)).cell? ⟨w.heap.size + 1, 0, none⟩ = some (.string ⟨b.id.toArray⟩) ∧
    ((w.alloc (.cells #[.string ⟨a.id.toArray⟩, .int .i64 a.time, .string ⟨a.text.toArray⟩] 31)).alloc (.cells #[.string ⟨b.id.toArray⟩, .int .i64 b.time, .string ⟨b.text.toArray⟩] 31)).cell? ⟨w.heap.size + 1, 1, none⟩ = some (.int .i64 b.time) := by
  generalize hW : w.alloc (.cells #[.string ⟨a.id.toArray⟩, .int .i64 a.time, .string ⟨a.text.toArray⟩] 31) = W
  have h1 : W.heap[w.heap.size]? = some (.cells #[.string ⟨a.id.toArray⟩, .int .i64 a.time, .string ⟨a.text.toArray⟩] 31) := by rw [← hW]; exact heap_alloc_new w _
  have h2 : W.heap.size = w.heap.size + 1 := by rw [← hW]; simp
  have h3 := heap_alloc_new W (.cells #[.string ⟨b.id.toArray⟩, .int .i64 b.time, .string ⟨b.text.toArray⟩] 31)
  have h4 := heapOld (o := .cells #[.string ⟨b.id.toArray⟩, .int .i64 b.time, .string ⟨b.text.toArray⟩] 31) h1
  rw [h2] at h3
  exact ⟨cell_of_row _ _ 0 _ _ _ h4, cell_of_row _ _ 1 _ _ _ h4, cell_of_row _ _ 0 _ _ _ h3, cell_of_row _ _ 1 _ _ _ h3⟩

/-- two entries that lie in blocks k and k + 1 -/
def TwoDocs (k : Nat) (a b : M.D) (W : World) : Prop := W.cell? ⟨k, 0, none⟩ = some (.string ⟨a.id.toArray⟩) ∧ W.cell? ⟨k, 1, none⟩ = some (.int .i64 a.time) ∧ W.cell? ⟨k + 1, 0, none⟩ = some (.string ⟨b.id.toArray⟩) ∧ W.cell? ⟨k + 1, 1, none⟩ = some (.int .i64 b.time)
theorem TwoDocs.alloc {k : Nat} {a b : M.D} {W : World} (h : TwoDocs k a b W) (o : Obj) (hk : k + 1 < W.heap.size) : TwoDocs k a b (W.alloc o) :=
  ⟨(World.cell?_alloc_lt W o _ (by show k < _; omega)).trans h.1, (World.cell?_alloc_lt W o _ (by show k < _; omega)).trans h.2.1, (World.cell?_alloc_lt W o _ hk).trans h.2.2.1, (World.cell?_alloc_lt W o _ hk).trans h.2.2.2⟩

set_option maxHeartbeats 2000000 in
theorem order_any (a b : M.D) (w : World) : Calls Try.prog 15 #[dval a, dval b] w (SaysZ (M.order a b) w) := by
  obtain ⟨i1, t1, x1⟩ := a
  obtain ⟨i2, t2, x2⟩ := b
  unfold dval
  simp only
  have HF := Lib.hid (show M.order ⟨i1, t1, x1⟩ ⟨i2, t2, x2⟩ = orZ (M.cmpI t1 t2) (M.cmpT i1 i2) from rfl)
  go_enter Try.func15, Try.ntmps15
  go_wp2_with fail
  have hs : (w.alloc (.cells #[.string ⟨i1.toArray⟩, .int .i64 t1, .string ⟨x1.toArray⟩] 31)).heap.size = w.heap.size + 1 := by simp
  have HS := Lib.hid (two_docs w ⟨i1, t1, x1⟩ ⟨i2, t2, x2⟩)
  clear hs
  go_region_held3 (fun W => W.cell? ⟨w.heap.size, 0, none⟩ = some (.string ⟨i1.toArray⟩) ∧ W.cell? ⟨w.heap.size, 1, none⟩ = some (.int .i64 t1) ∧ W.cell? ⟨w.heap.size + 1, 0, none⟩ = some (.string ⟨i2.toArray⟩) ∧ W.cell? ⟨w.heap.size + 1, 1, none⟩ = some (.int .i64 t2))
    (first | exact hHeld | exact HS.out | exact TwoDocs.alloc (a := ⟨i1, t1, x1⟩) (b := ⟨i2, t2, x2⟩) HS.out _ (by simp))
    (first
      | (go_at_call 19; refine (compareI_any _ _ _).mono ?_; rintro e w' ⟨rfl, rfl⟩)
      | (go_at_call 20; refine (compareS_any _ _ _).mono ?_; rintro e w' ⟨rfl, rfl⟩)
      | (go_at_call 18; refine (or2_new _ _ _ _ (by simp)).mono ?_; rintro e w' ⟨rfl, rfl⟩))
  all_goals
    go_wp2
    go_ret
    refine ⟨by rw [HF.out]; rfl, ?_⟩
    have h := (((Below.refl w.heap.size w).alloc (Nat.le_refl _) (.cells #[.string ⟨i1.toArray⟩, .int .i64 t1, .string ⟨x1.toArray⟩] 31)).alloc (by simp) (.cells #[.string ⟨i2.toArray⟩, .int .i64 t2, .string ⟨x2.toArray⟩] 31)).alloc (by simp; omega) (.cells #[.int .i64 (M.cmpI t1 t2), .int .i64 (M.cmpT i1 i2)] 3)
    exact ⟨h.os, h.tape, h.output, h.size, h.block⟩
end Go.Proofs.Ytpnhjcedhcgglaa
