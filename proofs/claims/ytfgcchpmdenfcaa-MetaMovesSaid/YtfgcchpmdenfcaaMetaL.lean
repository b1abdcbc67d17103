/-
  The law MetaMoves, by the contracts.
-/
import Derived.Test.YtfgcchpmdenfcaaMetaK
namespace Go.Proofs.Ytfgcchpmdenfcaa
open Go.RowKit Mem Go.ChangeShapes
set_option linter.unusedVariables false
set_option maxRecDepth 100000

def mv0 (n s : Nat) : M.T := M.new n s 1
def mv1 (n s k : Nat) : M.T := M.apply (mv0 n s) ⟨2, 0, k, 0⟩
def mv2 (n s k : Nat) : M.T := M.apply (mv1 n s k) ⟨1, 0, k, 1⟩
def mv3 (n s k : Nat) : M.T := M.apply (mv2 n s k) ⟨3, 0, 0, 2⟩
def mvOk (n s k : Nat) : Bool :=
  !M.fits (mv0 n s) ⟨1, 0, k, 0⟩ && !M.fits (mv0 n s) ⟨3, 0, 0, 0⟩ && M.fits (mv0 n s) ⟨2, 0, k, 0⟩ && !M.fits (mv1 n s k) ⟨3, 0, 0, 1⟩ && M.fits (mv1 n s k) ⟨1, 0, k, 1⟩ && M.fits (mv2 n s k) ⟨3, 0, 0, 2⟩ &&
    decide ((mv3 n s k).rows[0]? = some ⟨3, 2, (k : Int), [(k : Int)]⟩)
theorem mv_all : ∀ n : Fin 4, ∀ s : Fin 8, ∀ k : Fin 4, k.1 < n.1 + 1 → mvOk (n.1 + 2) (s.1 + 1) (k.1 + 1) = true := by decide +kernel
theorem mv_ok {n s k : Nat} (h2 : 2 ≤ n) (h5 : n ≤ 5) (s1 : 1 ≤ s) (s8 : s ≤ 8) (k1 : 1 ≤ k) (kn : k < n) :
    M.fits (mv0 n s) ⟨1, 0, k, 0⟩ = false ∧ M.fits (mv0 n s) ⟨3, 0, 0, 0⟩ = false ∧ M.fits (mv0 n s) ⟨2, 0, k, 0⟩ = true ∧ M.fits (mv1 n s k) ⟨3, 0, 0, 1⟩ = false ∧ M.fits (mv1 n s k) ⟨1, 0, k, 1⟩ = true ∧ M.fits (mv2 n s k) ⟨3, 0, 0, 2⟩ = true ∧
      (mv3 n s k).rows[0]? = some ⟨3, 2, (k : Int), [(k : Int)]⟩ := by
  have h := mv_all ⟨n - 2, by omega⟩ ⟨s - 1, by omega⟩ ⟨k - 1, by omega⟩ (by show k - 1 < n - 2 + 1; omega)
  rw [show (⟨n - 2, by omega⟩ : Fin 4).1 + 2 = n from by show n - 2 + 2 = n; omega, show (⟨s - 1, by omega⟩ : Fin 8).1 + 1 = s from by show s - 1 + 1 = s; omega, show (⟨k - 1, by omega⟩ : Fin 4).1 + 1 = k from by show k - 1 + 1 = k; omega] at h
  unfold mvOk at h
  simp only [Bool.and_eq_true, Bool.not_eq_true', decide_eq_true_eq] at h
  obtain ⟨⟨⟨⟨⟨⟨a, b⟩, c⟩, d⟩, e⟩, f⟩, g⟩ := h
  exact ⟨a, b, c, d, e, f, g⟩
theorem mv0_nodes (n s : Nat) : (mv0 n s).nodes = (n : Int) := rfl
theorem mv1_nodes (n s k : Nat) : (mv1 n s k).nodes = (n : Int) := by unfold mv1; rw [apply_nodes]; rfl
theorem mv2_nodes (n s k : Nat) : (mv2 n s k).nodes = (n : Int) := by unfold mv2; rw [apply_nodes, mv1_nodes]
/-- a command of the law on a table of it -/
theorem mv_call {t : M.T} {n s : Nat} {q : Bool} (c : M.C) (hn : t.nodes = (n : Int)) (h5 : n ≤ 5) (hc : CmdOk c) (hf : M.fits t c = q) :
    ∀ A cap W, TabIs W W.heap.size A s cap t → Calls Try.prog 17 #[.agg #[.int .i64 (n : Int), .slice A s cap], cval c] W fun e w' =>
      ∃ A' c', e = .returned (.tuple #[.agg #[.int .i64 (n : Int), .slice A' s c'], .bool q]) ∧ TabIs w' w'.heap.size A' s c' (M.apply t c) ∧ Below W.heap.size W w' := by
  intro A cap W h
  have := apply_tab A s cap t c W h (by rw [hn]; unfold I64; omega) hc
  unfold AppliedT at this
  rw [hn, hf] at this
  exact this
theorem bel3 {w w1 w2 : World} {o : Obj} (h : Below w.heap.size w w1) (k : Below w1.heap.size w1 w2) : Below w.heap.size w (w2.alloc o) := bel_on (bel_on h k) (bel_alloc' w2 o)

set_option maxHeartbeats 4000000 in
theorem metaMoves_any (a b d : Nat) (ha : a < 256) (hb : b < 256) (hd : d < 256) (w : World) : Calls Try.prog 8 #[.int .u8 (a : Int), .int .u8 (b : Int), .int .u8 (d : Int)] w (SaysB true w) := by
  obtain ⟨n, hn⟩ : ∃ n, n = 2 + a % 4 := ⟨_, rfl⟩
  obtain ⟨s, hs⟩ : ∃ s, s = 1 + b % 8 := ⟨_, rfl⟩
  obtain ⟨k, hk⟩ : ∃ k, k = 1 + d % (n - 1) := ⟨_, rfl⟩
  have hkn : k < n := by have := Nat.mod_lt d (show 0 < n - 1 by omega); omega
  have hni : (2 + (a : Int) % 4) = (n : Int) := by omega
  have hsi : (1 + (b : Int) % 8) = (s : Int) := by omega
  have hki : ((d : Int) % ((n : Int) - 1)) = ((d % (n - 1) : Nat) : Int) := by rw [Int.natCast_emod]; congr 1; omega
  obtain ⟨m1, m2, m3, m4, m5, m6, m7⟩ := mv_ok (n := n) (s := s) (k := k) (by omega) (by omega) (by omega) (by omega) (by omega) hkn
  have hcm : ∀ {kd : Nat} {nd : Nat} {rv : Nat}, kd < 256 → nd ≤ 5 → rv < 10 → CmdOk ⟨kd, 0, (nd : Int), rv⟩ := fun h1 h2 h3 => ⟨h1, by unfold I64; simp only; omega, by unfold I64; simp only; omega, by simp only; omega⟩
  have C1 := Lib.hid (mv_call (s := s) ⟨1, 0, (k : Int), 0⟩ (mv0_nodes n s) (by omega) (hcm (by omega) (by omega) (by omega)) m1)
  have C2 := Lib.hid (mv_call (s := s) ⟨3, 0, ((0 : Nat) : Int), 0⟩ (mv0_nodes n s) (by omega) (hcm (by omega) (by omega) (by omega)) m2)
  have C3 := Lib.hid (mv_call (s := s) ⟨2, 0, (k : Int), 0⟩ (mv0_nodes n s) (by omega) (hcm (by omega) (by omega) (by omega)) m3)
  have C4 := Lib.hid (mv_call (s := s) ⟨3, 0, ((0 : Nat) : Int), 1⟩ (mv1_nodes n s k) (by omega) (hcm (by omega) (by omega) (by omega)) m4)
  have C5 := Lib.hid (mv_call (s := s) ⟨1, 0, (k : Int), 1⟩ (mv1_nodes n s k) (by omega) (hcm (by omega) (by omega) (by omega)) m5)
  have C6 := Lib.hid (mv_call (s := s) ⟨3, 0, ((0 : Nat) : Int), 2⟩ (mv2_nodes n s k) (by omega) (hcm (by omega) (by omega) (by omega)) m6)
  have C0 := Lib.hid (fun W => new_tab n s 1 (by omega) (by omega) (by omega) (by omega) (by omega) (by omega) W)
  have HA := Lib.hid (awake14_any w)
  have HM7 := Lib.hid m7
  have HNI := Lib.hid hni; have HSI := Lib.hid hsi
  have HKI := Lib.hid (show ((1 : Int) + (d : Int) % ((n : Int) - 1)) = (k : Int) by rw [hki]; omega)
  have hn5 : n ≤ 5 := by omega
  have hn2 : 2 ≤ n := by omega
  have hs1 : 1 ≤ s := by omega
  have hs8 : s ≤ 8 := by omega
  clear m1 m2 m3 m4 m5 m6 m7 hn hs hk hni hsi hki hcm
  go_enter Try.func8, Try.ntmps8
  go_wp2_with fail
  refine HA.out.mono ?_
  rintro e w1 ⟨rfl, hb1⟩
  have HB1 := Lib.hid hb1
  have hni := HNI.out
  have hsi := HSI.out
  clear hb1
  go_wp2_with fail
  refine (C0.out w1).mono ?_
  rintro e w2 ⟨A0, c0, rfl, ht0, hb2⟩
  obtain ⟨hq1, hq2, -⟩ := ht0.bounds
  have hki := HKI.out
  -- the boxes: the table, three commands
  obtain ⟨W3, hW3⟩ : ∃ W3, W3 = (((w2.alloc (.cells #[.int .i64 (n : Int), .slice A0 s c0] 24)).alloc (.cells #[.int .u8 2, .int .i64 0, .int .i64 (k : Int), .int .u64 0] 39)).alloc (.cells #[.int .u8 1, .int .i64 0, .int .i64 (k : Int), .int .u64 1] 39)).alloc (.cells #[.int .u8 3, .int .i64 0, .int .i64 0, .int .u64 2] 39) := ⟨_, rfl⟩
  have hb3 : Below w2.heap.size w2 W3 := by rw [hW3]; exact (((bel_alloc' w2 _).alloc (by simp) _).alloc (by simp; omega) _).alloc (by simp; omega) _
  have x8 : W3.heap[w2.heap.size]? = some (.cells #[.int .i64 (n : Int), .slice A0 s c0] 24 (0, 0)) := by
    rw [hW3]; exact heapOld (heapOld (heapOld (heapNew (w := w2) _)))
  have x11 : W3.heap[w2.heap.size + 1]? = some (.cells #[.int .u8 2, .int .i64 0, .int .i64 (k : Int), .int .u64 0] 39 (0, 0)) := by
    rw [hW3]
    have := heapOld (o := .cells #[.int .u8 3, .int .i64 0, .int .i64 0, .int .u64 2] 39) (heapOld (o := .cells #[.int .u8 1, .int .i64 0, .int .i64 (k : Int), .int .u64 1] 39) (heapNew (w := w2.alloc (.cells #[.int .i64 (n : Int), .slice A0 s c0] 24)) (.cells #[.int .u8 2, .int .i64 0, .int .i64 (k : Int), .int .u64 0] 39)))
    simpa using this
  have x12 : W3.heap[w2.heap.size + 1 + 1]? = some (.cells #[.int .u8 1, .int .i64 0, .int .i64 (k : Int), .int .u64 1] 39 (0, 0)) := by
    rw [hW3]
    have := heapOld (o := .cells #[.int .u8 3, .int .i64 0, .int .i64 0, .int .u64 2] 39) (heapNew (w := (w2.alloc (.cells #[.int .i64 (n : Int), .slice A0 s c0] 24)).alloc (.cells #[.int .u8 2, .int .i64 0, .int .i64 (k : Int), .int .u64 0] 39)) (.cells #[.int .u8 1, .int .i64 0, .int .i64 (k : Int), .int .u64 1] 39))
    simpa using this
  have x13 : W3.heap[w2.heap.size + 1 + 1 + 1]? = some (.cells #[.int .u8 3, .int .i64 0, .int .i64 0, .int .u64 2] 39 (0, 0)) := by
    rw [hW3]
    have := heapNew (w := ((w2.alloc (.cells #[.int .i64 (n : Int), .slice A0 s c0] 24)).alloc (.cells #[.int .u8 2, .int .i64 0, .int .i64 (k : Int), .int .u64 0] 39)).alloc (.cells #[.int .u8 1, .int .i64 0, .int .i64 (k : Int), .int .u64 1] 39)) (.cells #[.int .u8 3, .int .i64 0, .int .i64 0, .int .u64 2] 39)
    simpa using this
  have BX := Lib.hid (show ∀ W, Below W3.heap.size W3 W → ((W.cell? ⟨w2.heap.size, 0, none⟩ = some (.int .i64 (n : Int)) ∧ W.cell? ⟨w2.heap.size, 1, none⟩ = some (.slice A0 s c0)) ∧ (W.cell? ⟨w2.heap.size + 1, 0, none⟩ = some (.int .u8 2) ∧ W.cell? ⟨w2.heap.size + 1, 1, none⟩ = some (.int .i64 0) ∧ W.cell? ⟨w2.heap.size + 1, 2, none⟩ = some (.int .i64 (k : Int)) ∧ W.cell? ⟨w2.heap.size + 1, 3, none⟩ = some (.int .u64 0)) ∧
      (W.cell? ⟨w2.heap.size + 1 + 1, 0, none⟩ = some (.int .u8 1) ∧ W.cell? ⟨w2.heap.size + 1 + 1, 1, none⟩ = some (.int .i64 0) ∧ W.cell? ⟨w2.heap.size + 1 + 1, 2, none⟩ = some (.int .i64 (k : Int)) ∧ W.cell? ⟨w2.heap.size + 1 + 1, 3, none⟩ = some (.int .u64 1)) ∧
      (W.cell? ⟨w2.heap.size + 1 + 1 + 1, 0, none⟩ = some (.int .u8 3) ∧ W.cell? ⟨w2.heap.size + 1 + 1 + 1, 1, none⟩ = some (.int .i64 0) ∧ W.cell? ⟨w2.heap.size + 1 + 1 + 1, 2, none⟩ = some (.int .i64 0) ∧ W.cell? ⟨w2.heap.size + 1 + 1 + 1, 3, none⟩ = some (.int .u64 2))) from fun W hW => by
    have h8 := (hW.block _ (heapLt x8)).trans x8
    have h11 := (hW.block _ (heapLt x11)).trans x11
    have h12 := (hW.block _ (heapLt x12)).trans x12
    have h13 := (hW.block _ (heapLt x13)).trans x13
    exact ⟨⟨cellAt 0 h8, cellAt 1 h8⟩, ⟨cellAt 0 h11, cellAt 1 h11, cellAt 2 h11, cellAt 3 h11⟩, ⟨cellAt 0 h12, cellAt 1 h12, cellAt 2 h12, cellAt 3 h12⟩, cellAt 0 h13, cellAt 1 h13, cellAt 2 h13, cellAt 3 h13⟩)
  have HT0 := Lib.hid (show ∀ W, Below W3.heap.size W3 W → TabIs W W.heap.size A0 s c0 (mv0 n s) from fun W hW => (ht0.on hb3).on hW)
  have HB3 := Lib.hid (bel_on (bel_on HB1.out hb2) hb3)
  have HW3 := Lib.hid hW3.symm
  have hd1 : ¬ (n : Int) - 1 = 0 := by omega
  clear ht0 hb2 hb3 x8 x11 x12 x13 hW3
  go_wp2_with fail
  rw [HW3.out]
  refine (C1.out A0 c0 W3 (HT0.out W3 (Below.refl _ _))).mono ?_
  rintro e w4 ⟨A4, c4, rfl, -, hb4⟩
  have ha4 : Below W3.heap.size W3 (w4.alloc (.cells #[.int .i64 (n : Int), .slice A4 s c4] 24)) := (hb4.trans ((bel_alloc' w4 _).mono hb4.size))
  have HA4 := Lib.hid ha4
  obtain ⟨⟨u0, u1⟩, ⟨d0, d1, d2, d3⟩, ⟨e0, e1, e2, e3⟩, f0, f1, f2, f3⟩ := BX.out _ ha4
  clear ha4 hb4
  go_wp2_with fail
  refine (C2.out A0 c0 _ (HT0.out _ HA4.out)).mono ?_
  rintro e w5 ⟨A5, c5, rfl, -, hb5⟩
  have ha5 : Below W3.heap.size W3 (w5.alloc (.cells #[.int .i64 (n : Int), .slice A5 s c5] 24)) := HA4.out.trans ((hb5.trans ((bel_alloc' w5 _).mono hb5.size)).mono HA4.out.size)
  have HA5 := Lib.hid ha5
  clear u0 u1 d0 d1 d2 d3 e0 e1 e2 e3 f0 f1 f2 f3
  obtain ⟨⟨u0, u1⟩, ⟨d0, d1, d2, d3⟩, ⟨e0, e1, e2, e3⟩, f0, f1, f2, f3⟩ := BX.out _ ha5
  clear ha5 hb5
  go_wp2_with fail
  refine (C3.out A0 c0 _ (HT0.out _ HA5.out)).mono ?_
  rintro e w6 ⟨A6, c6, rfl, ht6, hb6⟩
  have ha6 : Below W3.heap.size W3 (w6.alloc (.cells #[.int .i64 (n : Int), .slice A6 s c6] 24)) := HA5.out.trans ((hb6.trans ((bel_alloc' w6 _).mono hb6.size)).mono HA5.out.size)
  have HA6 := Lib.hid ha6
  have HT6 := Lib.hid (show ∀ W, Below (w6.alloc (.cells #[.int .i64 (n : Int), .slice A6 s c6] 24)).heap.size (w6.alloc (.cells #[.int .i64 (n : Int), .slice A6 s c6] 24)) W → TabIs W W.heap.size A6 s c6 (mv1 n s k) from fun W hW => (ht6.on (bel_alloc' w6 _)).on hW)
  have HX6 := Lib.hid (show ∀ W, Below (w6.alloc (.cells #[.int .i64 (n : Int), .slice A6 s c6] 24)).heap.size (w6.alloc (.cells #[.int .i64 (n : Int), .slice A6 s c6] 24)) W → W.cell? ⟨w6.heap.size, 0, none⟩ = some (.int .i64 (n : Int)) ∧ W.cell? ⟨w6.heap.size, 1, none⟩ = some (.slice A6 s c6) from fun W hW => by
    have h8 := (hW.block w6.heap.size (by simp)).trans (heapNew (w := w6) (.cells #[.int .i64 (n : Int), .slice A6 s c6] 24))
    exact ⟨cellAt 0 h8, cellAt 1 h8⟩)
  obtain ⟨hp6, hpp6, -⟩ := ht6.bounds
  clear u0 u1 d0 d1 d2 d3 e0 e1 e2 e3 f0 f1 f2 f3
  obtain ⟨⟨u0, u1⟩, ⟨d0, d1, d2, d3⟩, ⟨e0, e1, e2, e3⟩, f0, f1, f2, f3⟩ := BX.out _ ha6
  obtain ⟨g0, g1⟩ := HX6.out _ (Below.refl _ _)
  clear ha6 hb6 ht6
  go_wp2_with fail
  refine (C4.out A6 c6 _ (HT6.out _ (Below.refl _ _))).mono ?_
  rintro e w7 ⟨A7, c7, rfl, -, hb7⟩
  have ha7 : Below W3.heap.size W3 (w7.alloc (.cells #[.int .i64 (n : Int), .slice A7 s c7] 24)) := HA6.out.trans ((hb7.trans ((bel_alloc' w7 _).mono hb7.size)).mono HA6.out.size)
  have HA7 := Lib.hid ha7
  have hr7 := hb7.trans ((bel_alloc' w7 (.cells #[.int .i64 (n : Int), .slice A7 s c7] 24)).mono hb7.size)
  have HR7 := Lib.hid hr7
  clear u0 u1 d0 d1 d2 d3 e0 e1 e2 e3 f0 f1 f2 f3 g0 g1
  obtain ⟨⟨u0, u1⟩, ⟨d0, d1, d2, d3⟩, ⟨e0, e1, e2, e3⟩, f0, f1, f2, f3⟩ := BX.out _ ha7
  obtain ⟨g0, g1⟩ := HX6.out _ hr7
  clear ha7 hb7 hr7
  go_wp2_with fail
  refine (C5.out A6 c6 _ (HT6.out _ HR7.out)).mono ?_
  rintro e w8 ⟨A8, c8, rfl, ht8, hb8⟩
  have ha8 : Below W3.heap.size W3 (w8.alloc (.cells #[.int .i64 (n : Int), .slice A8 s c8] 24)) := HA7.out.trans ((hb8.trans ((bel_alloc' w8 _).mono hb8.size)).mono HA7.out.size)
  have HA8 := Lib.hid ha8
  have HT8 := Lib.hid (show ∀ W, Below (w8.alloc (.cells #[.int .i64 (n : Int), .slice A8 s c8] 24)).heap.size (w8.alloc (.cells #[.int .i64 (n : Int), .slice A8 s c8] 24)) W → TabIs W W.heap.size A8 s c8 (mv2 n s k) from fun W hW => (ht8.on (bel_alloc' w8 _)).on hW)
  have HX8 := Lib.hid (show ∀ W, Below (w8.alloc (.cells #[.int .i64 (n : Int), .slice A8 s c8] 24)).heap.size (w8.alloc (.cells #[.int .i64 (n : Int), .slice A8 s c8] 24)) W → W.cell? ⟨w8.heap.size, 0, none⟩ = some (.int .i64 (n : Int)) ∧ W.cell? ⟨w8.heap.size, 1, none⟩ = some (.slice A8 s c8) from fun W hW => by
    have h8 := (hW.block w8.heap.size (by simp)).trans (heapNew (w := w8) (.cells #[.int .i64 (n : Int), .slice A8 s c8] 24))
    exact ⟨cellAt 0 h8, cellAt 1 h8⟩)
  obtain ⟨hp8, hpp8, -⟩ := ht8.bounds
  clear u0 u1 d0 d1 d2 d3 e0 e1 e2 e3 f0 f1 f2 f3 g0 g1
  obtain ⟨⟨u0, u1⟩, ⟨d0, d1, d2, d3⟩, ⟨e0, e1, e2, e3⟩, f0, f1, f2, f3⟩ := BX.out _ ha8
  obtain ⟨g0, g1⟩ := HX8.out _ (Below.refl _ _)
  clear ha8 hb8 ht8
  go_wp2_with fail
  refine (C6.out A8 c8 _ (HT8.out _ (Below.refl _ _))).mono ?_
  rintro e w9 ⟨A9, c9, rfl, ht9, hb9⟩
  have ha9 : Below W3.heap.size W3 (w9.alloc (.cells #[.int .i64 (n : Int), .slice A9 s c9] 24)) := HA8.out.trans ((hb9.trans ((bel_alloc' w9 _).mono hb9.size)).mono HA8.out.size)
  have HA9 := Lib.hid ha9
  have HT9 := Lib.hid (show ∀ W, Below (w9.alloc (.cells #[.int .i64 (n : Int), .slice A9 s c9] 24)).heap.size (w9.alloc (.cells #[.int .i64 (n : Int), .slice A9 s c9] 24)) W → TabIs W W.heap.size A9 s c9 (mv3 n s k) from fun W hW => (ht9.on (bel_alloc' w9 _)).on hW)
  have HX9 := Lib.hid (show ∀ W, Below (w9.alloc (.cells #[.int .i64 (n : Int), .slice A9 s c9] 24)).heap.size (w9.alloc (.cells #[.int .i64 (n : Int), .slice A9 s c9] 24)) W → W.cell? ⟨w9.heap.size, 0, none⟩ = some (.int .i64 (n : Int)) ∧ W.cell? ⟨w9.heap.size, 1, none⟩ = some (.slice A9 s c9) from fun W hW => by
    have h8 := (hW.block w9.heap.size (by simp)).trans (heapNew (w := w9) (.cells #[.int .i64 (n : Int), .slice A9 s c9] 24))
    exact ⟨cellAt 0 h8, cellAt 1 h8⟩)
  obtain ⟨hp9, hpp9, -⟩ := ht9.bounds
  clear u0 u1 d0 d1 d2 d3 e0 e1 e2 e3 f0 f1 f2 f3 g0 g1
  obtain ⟨⟨u0, u1⟩, ⟨d0, d1, d2, d3⟩, ⟨e0, e1, e2, e3⟩, f0, f1, f2, f3⟩ := BX.out _ ha9
  obtain ⟨g0, g1⟩ := HX9.out _ (Below.refl _ _)
  obtain ⟨b9, o9, x9, rfl, hb9l, hat9, hrx9, hx9⟩ := (HT9.out _ (Below.refl _ _)).row (k := 0) (by omega)
  have hm7 := HM7.out
  rw [hx9] at hm7
  injection hm7 with hm7
  have hcells := hat9
  obtain ⟨z0, z1, z2, z3⟩ := hat9
  rw [hm7] at z0 z1 z2
  rw [Nat.zero_mul, Nat.add_zero] at z0 z1 z2 z3
  have hsl := hrx9.sl
  rw [hm7] at hsl
  have hsn : x9.n = 1 := by have := hsl.1; simpa using this
  have hsc := hsl.2.1
  obtain ⟨bs, os, hae, hbs, hcs⟩ := rdi_cells hsl (by omega)
  have hc0 := hcs 0 (by simp)
  rw [hae, hsn] at z3
  rw [Nat.add_zero] at hc0
  have hc0' : (w9.alloc (.cells #[.int .i64 (n : Int), .slice (some ⟨b9, o9, none⟩) s c9] 24)).cell? ⟨bs, os, none⟩ = some (.int .i64 (k : Int)) := hc0
  obtain ⟨xc, hxc⟩ : ∃ xc, x9.c = xc := ⟨_, rfl⟩
  rw [hxc] at z3
  have hxc1 : 1 ≤ xc := by rw [← hxc, ← hsn]; exact hsc
  have hWl := bel_alloc' (w9.alloc (.cells #[.int .i64 (n : Int), .slice (some ⟨b9, o9, none⟩) s c9] 24)) (.cells #[.int .u64 3, .int .u64 2, .int .i64 (k : Int), .slice (some ⟨bs, os, none⟩) 1 xc] 42)
  have hc1 := (hWl.cell (p := ⟨bs, os, none⟩) hbs).trans hc0'
  have HEND := Lib.hid (HB3.out.trans ((HA9.out.trans (hWl.mono HA9.out.size)).mono HB3.out.size))
  clear ha9 hb9 ht9 hx9 hrx9 hm7 hcells hsl hcs hc0 hWl hae
  go_wp2
  go_ret
  exact ⟨rfl, HEND.out⟩
end Go.Proofs.Ytfgcchpmdenfcaa
