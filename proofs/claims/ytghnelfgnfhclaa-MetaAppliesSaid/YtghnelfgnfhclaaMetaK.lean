/-
  New and Apply over tables that can be read; the law's awake.
-/
import Derived.Test.YtghnelfgnfhclaaMetaI
import Derived.Test.YtghnelfgnfhclaaMetaJ
namespace Go.Proofs.Ytghnelfgnfhclaa
open Go.RowKit Mem Go.ChangeShapes
set_option linter.unusedVariables false
set_option maxRecDepth 100000

/-- the slice (A, n, c) holds the rows of t -/
def TabIs (w : World) (B : Nat) (A : Option Addr) (n c : Nat) (t : M.T) : Prop := ∃ xs, RdXs w B A n c xs ∧ xs.map X.r = t.rows
section
variable {w w' : World} {B B' n c : Nat} {A : Option Addr} {t : M.T}
theorem TabIs.len (h : TabIs w B A n c t) : n = t.rows.length := by
  obtain ⟨xs, hx, e⟩ := h
  rw [hx.len, ← e, List.length_map]
theorem TabIs.below (h : TabIs w B A n c t) (hb : Below B w w') : TabIs w' B A n c t := by
  obtain ⟨xs, hx, e⟩ := h
  exact ⟨xs, hx.below hb, e⟩
theorem TabIs.on (h : TabIs w w.heap.size A n c t) (hb : Below w.heap.size w w') : TabIs w' w'.heap.size A n c t := by
  obtain ⟨xs, hx, e⟩ := h
  exact ⟨xs, (hx.below hb).more hb.size, e⟩
theorem TabIs.bounds (h : TabIs w B A n c t) : n ≤ c ∧ c ≤ 9223372036854775807 ∧ n ≤ 2932031007402 := by
  obtain ⟨xs, hx, e⟩ := h
  exact ⟨hx.cap, hx.max, hx.light⟩
theorem TabIs.row (h : TabIs w B A n c t) {k : Nat} (hk : k < n) : ∃ b off x, A = some ⟨b, off, none⟩ ∧ b < B ∧ At4 w b off k x ∧ RdX w B x ∧ t.rows[k]? = some x.r := by
  obtain ⟨xs, hx, e⟩ := h
  obtain ⟨b, off, e1, hb, hc⟩ := hx.cells (by omega)
  have hl : k < xs.length := by rw [← hx.len]; exact hk
  refine ⟨b, off, xs[k], e1, hb, hc k hl, hx.rows _ (List.getElem_mem hl), ?_⟩
  rw [← e, List.getElem?_map, List.getElem?_eq_getElem hl]
  rfl
theorem TabIs.rdt (h : TabIs w B A n c t) (hn : I64 t.nodes) : RdT w B (.agg #[.int .i64 t.nodes, .slice A n c]) t := by
  obtain ⟨xs, hx, e⟩ := h
  exact ⟨A, n, c, xs, rfl, hx, e, hn⟩
theorem tab_of_own {base : Nat} {v : Value} {xs : List X} (h : OwnXs w base v xs) (he : xs.map X.r = t.rows) (hf : FitT t) : ∃ A c, v = .slice A t.rows.length c ∧ TabIs w w.heap.size A t.rows.length c t := by
  obtain ⟨A, c, rfl, hx⟩ := h.rd (fun x hx => hf.2.2 x.r (by rw [← he]; exact List.mem_map_of_mem hx)) (by have := hf.2.1; rw [← he, List.length_map] at this; exact this)
  have hl : xs.length = t.rows.length := by rw [← he, List.length_map]
  rw [hl] at hx
  exact ⟨A, c, by rw [hl], xs, hx, he⟩
end
theorem apply_len (t : M.T) (c : M.C) : (M.apply t c).rows.length = t.rows.length := by
  unfold M.apply
  split
  · simp
  · rfl
theorem apply_nodes (t : M.T) (c : M.C) : (M.apply t c).nodes = t.nodes := by
  unfold M.apply
  split <;> rfl
theorem row_mem {t : M.T} {c : M.C} {k : Nat} (hk : c.shard = (k : Int)) (hl : k < t.rows.length) : M.row t c = t.rows[k] ∧ M.row t c ∈ t.rows := by
  have : M.row t c = t.rows[k] := by
    unfold M.row
    rw [hk, Int.toNat_natCast, List.getElem?_eq_getElem hl]
    rfl
  exact ⟨this, by rw [this]; exact List.getElem_mem hl⟩
theorem apply_fit {t : M.T} {c : M.C} (hf : FitT t) : FitT (M.apply t c) := by
  by_cases h : M.fits t c = true
  · obtain ⟨hform, ⟨k, hk, hkl⟩, hnode, hrv, hdoes⟩ := fits_yes h
    obtain ⟨hre, hrm⟩ := row_mem hk hkl
    obtain ⟨hri, hr1, hrc, hn5, hn1⟩ := form_row hform hrm
    have hl5 := rises_len (by omega) hri
    have hfr := hf.2.2 _ hrm
    refine ⟨by rw [apply_nodes]; exact hf.1, by rw [apply_len]; exact hf.2.1, fun r hr => ?_⟩
    unfold M.apply at hr
    rw [if_pos h] at hr
    rcases List.mem_or_eq_of_mem_set hr with hr | rfl
    · exact hf.2.2 r hr
    · have hni : I64 c.node := by have := hf.1; unfold I64 at *; omega
      generalize M.row t c = r at *
      unfold M.next
      split
      · exact ⟨by simp only; omega, by simp only; omega, hni, hfr.sync, hfr.len⟩
      · refine ⟨by simp only; omega, hfr.term, hfr.prim, fun z hz => ?_, ?_⟩
        · rcases (M.ins_mem _ _ _).1 hz with rfl | hz
          · exact hni
          · exact hfr.sync z hz
        · have := M.at_le r.sync c.node
          simp [M.ins]; omega
      · refine ⟨by simp only; omega, hfr.term, hfr.prim, fun z hz => ?_, ?_⟩
        · unfold M.del at hz
          rcases List.mem_append.1 hz with hz | hz
          · exact hfr.sync z (List.mem_of_mem_take hz)
          · exact hfr.sync z (List.mem_of_mem_drop hz)
        · simp [M.del]; omega
      · exact hfr
  · rw [apply_no (by simpa using h)]; exact hf
theorem new_fit {n s c : Nat} (hn : n ≤ 5) (hs : s ≤ 8) (hn1 : 1 ≤ n) : FitT (M.new n s c) := by
  refine ⟨by unfold M.new I64; simp only; omega, by simp [M.new]; omega, fun r hr => ?_⟩
  obtain ⟨k, hk, rfl⟩ := List.mem_map.1 hr
  have hm : k % n < n := Nat.mod_lt _ hn1
  refine ⟨by show 0 < _; omega, by show 1 < _; omega, by unfold M.newRow I64; simp only; omega, fun z hz => ?_, ?_⟩
  · obtain ⟨j, hj, rfl⟩ := List.mem_map.1 hz
    have := List.mem_range.1 (List.mem_filter.1 hj).1
    show -9223372036854775808 ≤ (j : Int) ∧ (j : Int) ≤ 9223372036854775807
    omega
  · show (M.newSync n c k).length ≤ _
    unfold M.newSync
    rw [List.length_map]
    have := List.length_filter_le (fun x => decide ((x + n - k % n) % n < c)) (List.range n)
    rw [List.length_range] at this
    omega

/-- Apply of a table that can be read -/
def AppliedT (t : M.T) (n : Nat) (c : M.C) (w : World) (e : Ending) (w' : World) : Prop :=
  ∃ A' c', e = .returned (.tuple #[.agg #[.int .i64 t.nodes, .slice A' n c'], .bool (M.fits t c)]) ∧ TabIs w' w'.heap.size A' n c' (M.apply t c) ∧ Below w.heap.size w w'
theorem apply_tab (A : Option Addr) (n cap : Nat) (t : M.T) (c : M.C) (w : World) (h : TabIs w w.heap.size A n cap t) (hn : I64 t.nodes) (hc : CmdOk c) :
    Calls Try.prog 17 #[.agg #[.int .i64 t.nodes, .slice A n cap], cval c] w (AppliedT t n c w) := by
  have hr := h.rdt hn
  refine (apply_any _ t c w hr hc).mono ?_
  rintro e w' ⟨v', xs, rfl, ho, he, hb⟩
  obtain ⟨A', c', rfl, ht⟩ := tab_of_own ho he (apply_fit hr.fit)
  rw [apply_len, ← h.len] at ht ⊢
  exact ⟨A', c', rfl, ht, hb⟩
def NewT (n s c : Nat) (w : World) (e : Ending) (w' : World) : Prop :=
  ∃ A' c', e = .returned (.tuple #[.agg #[.int .i64 (n : Int), .slice A' s c'], .int .i64 0]) ∧ TabIs w' w'.heap.size A' s c' (M.new n s c) ∧ Below w.heap.size w w'
theorem new_tab (n s c : Nat) (hn1 : 1 ≤ n) (hn5 : n ≤ 5) (hs1 : 1 ≤ s) (hs8 : s ≤ 8) (hc1 : 1 ≤ c) (hcn : c ≤ n) (w : World) : Calls Try.prog 11 #[.int .i64 (n : Int), .int .i64 (s : Int), .int .i64 (c : Int)] w (NewT n s c w) := by
  refine (new_ok n s c hn1 hn5 hs1 hs8 hc1 hcn w).mono ?_
  rintro e w' ⟨v', xs, rfl, ho, he, hb⟩
  obtain ⟨A', c', rfl, ht⟩ := tab_of_own ho he (new_fit hn5 hs8 hn1)
  have hl : (M.new n s c).rows.length = s := by simp [M.new]
  rw [hl] at ht ⊢
  exact ⟨A', c', rfl, ht, hb⟩

theorem awake_math : M.fits (M.new 3 2 2) ⟨1, 0, 1, 0⟩ = true ∧ ((M.apply (M.new 3 2 2) ⟨1, 0, 1, 0⟩).rows[0]?).map (fun r => (r.prim, r.term)) = some (1, 2) ∧ ((M.new 3 2 2).rows[0]?).map (fun r => r.prim) = some 0 := by decide +kernel
set_option maxHeartbeats 4000000 in
theorem awake14_any (w : World) : Calls Try.prog 10 #[] w (SaysB true w) := by
  have HNW := Lib.hid (new_tab 3 2 2 (by omega) (by omega) (by omega) (by omega) (by omega) (by omega) w)
  have HAP := Lib.hid (fun A cap W h => apply_tab A 2 cap (M.new 3 2 2) ⟨1, 0, 1, 0⟩ W h (by unfold M.new I64; simp only; omega) ⟨by show 1 < 256; omega, by unfold I64; simp only; omega, by unfold I64; simp only; omega, by show 0 < _; omega⟩)
  obtain ⟨hm1, hm2, hm3⟩ := awake_math
  have HM1 := Lib.hid hm1; have HM2 := Lib.hid hm2; have HM3 := Lib.hid hm3
  clear hm1 hm2 hm3
  go_enter Try.func10, Try.ntmps10
  go_wp2_with fail
  refine HNW.out.mono ?_
  rintro e w1 ⟨A1, c1, rfl, ht1, hb1⟩
  have hbd1 := ht1.bounds
  have HT1 := Lib.hid ht1; have HB1 := Lib.hid hb1
  have hc1 : 2 ≤ c1 := hbd1.1
  have hc1m : c1 ≤ 9223372036854775807 := hbd1.2.1
  clear ht1 hb1 hbd1
  go_wp2_with fail
  have hba := bel_alloc' w1 (.cells #[.int .i64 3, .slice A1 2 c1] 24)
  have hbx := heapNew (w := w1) (.cells #[.int .i64 3, .slice A1 2 c1] 24)
  refine (HAP.out A1 c1 _ (HT1.out.on hba)).mono ?_
  rintro e w2 ⟨A2, c2, rfl, ht2, hb2⟩
  rw [HM1.out, show (M.new 3 2 2).nodes = 3 from rfl]
  have ht1 := (HT1.out.on hba).on hb2
  have hbx2 := (hb2.block w1.heap.size (by simp)).trans hbx
  have hbd2 := ht2.bounds
  have hc2 : 2 ≤ c2 := hbd2.1
  have hc2m : c2 ≤ 9223372036854775807 := hbd2.2.1
  have hs2 : w1.heap.size + 1 ≤ w2.heap.size := by have := hb2.size; simpa using this
  have hb3 := bel_alloc' w2 (.cells #[.int .i64 3, .slice A2 2 c2] 24)
  have ht1' := ht1.on hb3
  have ht2' := ht2.on hb3
  obtain ⟨b1, o1, x1, rfl, hb1l, hat1, -, hx1⟩ := ht1'.row (k := 0) (by omega)
  obtain ⟨b2, o2, x2, rfl, hb2l, hat2, -, hx2⟩ := ht2'.row (k := 0) (by omega)
  have hm3 := HM3.out
  have hm2 := HM2.out
  rw [hx1] at hm3
  rw [hx2] at hm2
  simp only [Option.map_some, Option.some.injEq, Prod.mk.injEq] at hm2 hm3
  obtain ⟨-, -, z2, -⟩ := hat1
  obtain ⟨-, y1, y2, -⟩ := hat2
  rw [hm3] at z2
  rw [hm2.1] at y2
  rw [hm2.2] at y1
  rw [Nat.zero_mul, Nat.add_zero] at z2 y1 y2
  have q1 : w2.cell? ⟨w1.heap.size, 1, none⟩ = some (.slice (some ⟨b1, o1, none⟩) 2 c1) := cellAt 1 hbx2
  have q1a := (hb3.cell (p := ⟨w1.heap.size, 1, none⟩) (by show w1.heap.size < _; omega)).trans q1
  have HBF := Lib.hid (HB1.out.trans ((hba.mono HB1.out.size).trans ((hb2.mono (by have := HB1.out.size; simp; omega)).trans (hb3.mono (by have := HB1.out.size; omega)))))
  clear hba hbx ht1 ht2 hbx2 hbd2 hb3 ht1' ht2' hx1 hx2 hm2 hm3 hb2 hb1l hb2l
  go_wp2
  go_ret
  exact ⟨rfl, HBF.out⟩
end Go.Proofs.Ytghnelfgnfhclaa
