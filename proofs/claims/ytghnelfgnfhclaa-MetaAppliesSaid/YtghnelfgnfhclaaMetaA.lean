/-
  Tables in memory (rows of numbers with a slice each), that can be read or are the call's own; within, rightRow, Form and the document's In, Form, Same, by contracts.
-/
import Derived.Test.YtghnelfgnfhclaaRows
import Derived.Test.YtghnelfgnfhclaaMetaMath
import Derived.Test.YtghnelfgnfhclaaMemW
import Derived.Test.YtghnelfgnfhclaaTurn
import Derived.Test.YtghnelfgnfhclaaShelf
import Derived.Lib.Hide
import Derived.Deep.DeepMust
import Derived.BigQuiet
import Derived.Deep.QuietTactic
import Derived.Deep.RegionHeld3
namespace Go.Proofs.Ytghnelfgnfhclaa
open Go.RowKit Mem
set_option linter.unusedVariables false
set_option maxRecDepth 100000

abbrev ints (l : List Int) : List Value := l.map (Value.int .i64)
theorem ints_len (l : List Int) : (ints l).length = l.length := by simp
theorem ints_at {l : List Int} {j : Nat} (h : j < l.length) : (ints l)[j]? = some (.int .i64 l[j]) := by simp [h]
theorem ints_one (l : List Int) : ∀ u ∈ ints l, u.oneCell' = true := by
  intro u hu
  obtain ⟨x, _, rfl⟩ := List.mem_map.1 hu
  rfl
theorem rdi_cells {w : World} {B n c : Nat} {A : Option Addr} {zs : List Int} (h : RdV w B A n c (ints zs)) (hn : 0 < n) : ∃ b off, A = some ⟨b, off, none⟩ ∧ b < B ∧ ∀ j, j < zs.length → w.cell? ⟨b, off + j, none⟩ = some (.int .i64 (zs.getD j 0)) := by
  obtain ⟨b, off, e, hb, hc⟩ := h.2.2.2 hn
  refine ⟨b, off, e, hb, fun j hj => ?_⟩
  have hl := h.1
  rw [ints_len] at hl
  rw [hc j (by omega), ints_at hj, List.getD_eq_getElem?_getD, List.getElem?_eq_getElem hj]
  rfl
/-- a number of int -/
def I64 (z : Int) : Prop := -9223372036854775808 ≤ z ∧ z ≤ 9223372036854775807

/-- a row as it lies in memory: what it is, and its slice -/
structure X where
  r : M.R
  a : Option Addr
  n : Nat
  c : Nat
abbrev X.sl (x : X) : Value := .slice x.a x.n x.c
abbrev X.val (x : X) : Value := .agg #[.int .u64 (x.r.rev : Int), .int .u64 (x.r.term : Int), .int .i64 x.r.prim, .slice x.a x.n x.c]
def X.cells (x : X) : List Value := [.int .u64 (x.r.rev : Int), .int .u64 (x.r.term : Int), .int .i64 x.r.prim, .slice x.a x.n x.c]
def xcells (xs : List X) : List Value := xs.flatMap X.cells
theorem xcells_len (l : List X) : (xcells l).length = l.length * 4 := by
  induction l with
  | nil => rfl
  | cons a r ih => show (X.cells a ++ xcells r).length = _; rw [List.length_append, ih]; simp [X.cells]; omega
theorem xcells_app (l r : List X) : xcells (l ++ r) = xcells l ++ xcells r := by simp [xcells]
theorem xcells_one (l : List X) : ∀ u ∈ xcells l, u.oneCell' = true := by
  intro u hu
  obtain ⟨x, _, hx⟩ := List.mem_flatMap.1 hu
  simp only [X.cells, List.mem_cons, List.not_mem_nil, or_false] at hx
  rcases hx with rfl | rfl | rfl | rfl <;> rfl
theorem xcells_at {l : List X} {i : Nat} (hi : i < l.length) : (xcells l)[i * 4]? = some (.int .u64 (l[i].r.rev : Int)) ∧ (xcells l)[i * 4 + 1]? = some (.int .u64 (l[i].r.term : Int)) ∧ (xcells l)[i * 4 + 2]? = some (.int .i64 l[i].r.prim) ∧ (xcells l)[i * 4 + 3]? = some (.slice l[i].a l[i].n l[i].c) := by
  induction l generalizing i with
  | nil => simp at hi
  | cons a r ih =>
    have e : xcells (a :: r) = .int .u64 (a.r.rev : Int) :: .int .u64 (a.r.term : Int) :: .int .i64 a.r.prim :: .slice a.a a.n a.c :: xcells r := rfl
    rw [e]
    cases i with
    | zero => simp
    | succ j =>
      have := ih (i := j) (by simpa using hi)
      rw [show (j + 1) * 4 = j * 4 + 4 by omega]
      simpa using this
/-- the row's slice can be read, and its numbers are numbers -/
structure RdX (w : World) (B : Nat) (x : X) : Prop where
  rev : x.r.rev < 18446744073709551616
  term : x.r.term < 18446744073709551616
  prim : I64 x.r.prim
  sl : RdV w B x.a x.n x.c (ints x.r.sync)
  sync : ∀ z ∈ x.r.sync, I64 z
  light : x.n ≤ 17592186044416
/-- the four cells of row i -/
def At4 (w : World) (b off i : Nat) (x : X) : Prop :=
  w.cell? ⟨b, off + i * 4, none⟩ = some (.int .u64 (x.r.rev : Int)) ∧ w.cell? ⟨b, off + i * 4 + 1, none⟩ = some (.int .u64 (x.r.term : Int)) ∧
  w.cell? ⟨b, off + i * 4 + 2, none⟩ = some (.int .i64 x.r.prim) ∧ w.cell? ⟨b, off + i * 4 + 3, none⟩ = some (.slice x.a x.n x.c)
/-- the slice (A, n, c) holds the rows xs -/
structure RdXs (w : World) (B : Nat) (A : Option Addr) (n c : Nat) (xs : List X) : Prop where
  len : n = xs.length
  cap : n ≤ c
  max : c ≤ 9223372036854775807
  light : n ≤ 2932031007402
  cells : 0 < n → ∃ b off, A = some ⟨b, off, none⟩ ∧ b < B ∧ ∀ i (hi : i < xs.length), At4 w b off i xs[i]
  rows : ∀ x ∈ xs, RdX w B x
/-- v is the table t -/
def RdT (w : World) (B : Nat) (v : Value) (t : M.T) : Prop :=
  ∃ A n c xs, v = .agg #[.int .i64 t.nodes, .slice A n c] ∧ RdXs w B A n c xs ∧ xs.map X.r = t.rows ∧ I64 t.nodes

section
variable {w w' : World} {B B' n c : Nat} {A : Option Addr} {xs : List X} {x : X} {v : Value} {t : M.T}
theorem Mem.RdV.keep {l : List Value} (h : RdV w B A n c l) (hk : ∀ p : Addr, p.block < B → w'.cell? p = w.cell? p) : RdV w' B A n c l :=
  ⟨h.1, h.2.1, h.2.2.1, fun hn => by
    obtain ⟨b, off, e, hbB, hc⟩ := h.2.2.2 hn
    exact ⟨b, off, e, hbB, fun j hj => (hk ⟨b, off + j, none⟩ hbB).trans (hc j hj)⟩⟩
theorem RdX.keep (h : RdX w B x) (hk : ∀ p : Addr, p.block < B → w'.cell? p = w.cell? p) : RdX w' B x := ⟨h.rev, h.term, h.prim, h.sl.keep hk, h.sync, h.light⟩
theorem RdX.more (h : RdX w B x) (hb : B ≤ B') : RdX w B' x := ⟨h.rev, h.term, h.prim, h.sl.more hb, h.sync, h.light⟩
theorem At4.keep {b off i : Nat} (h : At4 w b off i x) (hb : b < B) (hk : ∀ p : Addr, p.block < B → w'.cell? p = w.cell? p) : At4 w' b off i x :=
  ⟨(hk _ hb).trans h.1, (hk _ hb).trans h.2.1, (hk _ hb).trans h.2.2.1, (hk _ hb).trans h.2.2.2⟩
theorem RdXs.keep (h : RdXs w B A n c xs) (hk : ∀ p : Addr, p.block < B → w'.cell? p = w.cell? p) : RdXs w' B A n c xs where
  len := h.len
  cap := h.cap
  max := h.max
  light := h.light
  cells := fun hn => by
    obtain ⟨b, off, e, hb, hc⟩ := h.cells hn
    exact ⟨b, off, e, hb, fun i hi => (hc i hi).keep hb hk⟩
  rows := fun x hx => (h.rows x hx).keep hk
theorem RdXs.more (h : RdXs w B A n c xs) (hB : B ≤ B') : RdXs w B' A n c xs where
  len := h.len
  cap := h.cap
  max := h.max
  light := h.light
  cells := fun hn => by
    obtain ⟨b, off, e, hb, hc⟩ := h.cells hn
    exact ⟨b, off, e, by omega, hc⟩
  rows := fun x hx => (h.rows x hx).more hB
theorem RdXs.below (h : RdXs w B A n c xs) (hb : Below B w w') : RdXs w' B A n c xs := h.keep fun _ hp => hb.cell hp
theorem RdT.below (h : RdT w B v t) (hb : Below B w w') : RdT w' B v t := by
  obtain ⟨A, n, c, xs, rfl, hx, e, hn⟩ := h
  exact ⟨A, n, c, xs, rfl, hx.below hb, e, hn⟩
theorem RdT.more (h : RdT w B v t) (hb : B ≤ B') : RdT w B' v t := by
  obtain ⟨A, n, c, xs, rfl, hx, e, hn⟩ := h
  exact ⟨A, n, c, xs, rfl, hx.more hb, e, hn⟩
theorem RdX.below (h : RdX w B x) (hb : Below B w w') : RdX w' B x := h.keep fun _ hp => hb.cell hp
end

/-- within, by a contract -/
theorem within_any (n a b : Int) (w : World) : Calls Try.prog 24 #[.int .i64 n, .int .i64 a, .int .i64 b] w fun e w' => e = .returned (.bool (decide (a ≤ n ∧ n ≤ b))) ∧ w' = w := by
  by_cases h1 : a ≤ n
  · by_cases h2 : n ≤ b
    · have hx : decide (a ≤ n ∧ n ≤ b) = true := by simp; omega
      rw [hx]
      clear hx
      go_enter Try.func24, Try.ntmps24
      go_wp2
      go_ret
      exact ⟨rfl, rfl⟩
    · have hx : decide (a ≤ n ∧ n ≤ b) = false := by simp; omega
      rw [hx]
      clear hx
      go_enter Try.func24, Try.ntmps24
      go_wp2
      go_ret
      exact ⟨rfl, rfl⟩
  · have hx : decide (a ≤ n ∧ n ≤ b) = false := by simp; omega
    rw [hx]
    clear hx
    go_enter Try.func24, Try.ntmps24
    go_wp2
    go_ret
    exact ⟨rfl, rfl⟩
theorem contains_any (B n c : Nat) (A : Option Addr) (zs : List Int) (x : Int) (w : World) (h : RdV w B A n c (ints zs)) : Calls Try.prog 42 #[.slice A n c, .int .i64 x] w fun e w' => e = .returned (.bool (zs.contains x)) ∧ w' = w := by
  have hl := h.1
  rw [ints_len] at hl
  rcases Nat.eq_zero_or_pos n with h0 | h0
  · subst h0
    obtain rfl : zs = [] := List.eq_nil_of_length_eq_zero hl.symm
    exact Try.slices_Contains_int_empty A c x w
  · obtain ⟨b, off, rfl, hb, hc⟩ := rdi_cells h h0
    have hm := h.max
    have hc2 := h.2.1
    have := Try.slices_Contains_int b off n c zs x w (by omega) (by omega) hc
    rwa [List.take_of_length_le (by omega)] at this
end Go.Proofs.Ytghnelfgnfhclaa
