/-
  New, by contracts.
-/
import Derived.Test.YtghnelfgnfhclaaMetaF
namespace Go.Proofs.Ytghnelfgnfhclaa
open Go.RowKit Mem Go.ChangeShapes
set_option linter.unusedVariables false
set_option maxRecDepth 100000

theorem newRaw_succ (n j s : Nat) : M.newRaw n (j + 1) s = M.newRaw n j s ++ [(((s + j) % n : Nat) : Int)] := by
  unfold M.newRaw
  rw [List.range_succ, List.map_append]
  rfl
theorem newRaw_len (n j s : Nat) : (M.newRaw n j s).length = j := by simp [M.newRaw]
def NewBad (w : World) (e : Ending) (w' : World) : Prop := e = .returned (.tuple #[.agg #[.int .i64 0, .slice none 0 0], .int .i64 1]) ∧ Below w.heap.size w w'
def NewOk (n s c : Nat) (w : World) (e : Ending) (w' : World) : Prop :=
  ∃ v' xs, e = .returned (.tuple #[.agg #[.int .i64 (n : Int), v'], .int .i64 0]) ∧ OwnXs w' w.heap.size v' xs ∧ xs.map X.r = (M.new n s c).rows ∧ Below w.heap.size w w'

theorem zero_box (w : World) : (w.alloc (.cells #[.int .i64 0, .slice none 0 0] 24)).heap[w.heap.size]? = some (.cells #[.int .i64 0, .slice none 0 0] 24 (0, 0)) ∧ Below w.heap.size w (w.alloc (.cells #[.int .i64 0, .slice none 0 0] 24)) :=
  ⟨heapNew (w := w) _, bel_alloc' w _⟩

set_option maxHeartbeats 2000000 in
theorem new_bad (n s c : Int) (hb : n < 1 ∨ 5 < n ∨ s < 1 ∨ 8 < s ∨ c < 1 ∨ n < c) (w : World) : Calls Try.prog 11 #[.int .i64 n, .int .i64 s, .int .i64 c] w (NewBad w) := by
  have HI1 := Lib.hid (fun W => within_any n 1 5 W)
  have HI2 := Lib.hid (fun W => within_any s 1 8 W)
  have HI3 := Lib.hid (fun W => within_any c 1 n W)
  obtain ⟨hz1, hz2⟩ := zero_box w
  have HZ1 := Lib.hid hz1; have HZ2 := Lib.hid hz2
  clear hz1 hz2
  by_cases h1 : decide (1 ≤ n ∧ n ≤ 5) = true
  · rw [h1] at HI1
    by_cases h2 : decide (1 ≤ s ∧ s ≤ 8) = true
    · rw [h2] at HI2
      have h3 : decide (1 ≤ c ∧ c ≤ n) = false := by simp only [decide_eq_true_eq] at h1 h2; simp; omega
      rw [h3] at HI3
      clear hb h1 h2 h3
      go_enter Try.func11, Try.ntmps11
      go_wp2_with fail
      refine (HI1.out _).mono ?_
      rintro e w1 ⟨rfl, rfl⟩
      go_wp2_with fail
      refine (HI2.out _).mono ?_
      rintro e w1 ⟨rfl, rfl⟩
      go_wp2_with fail
      refine (HI3.out _).mono ?_
      rintro e w1 ⟨rfl, rfl⟩
      go_wp2
      refine bodyPost_ret (results_row2 rfl _ _ w.heap.size 24 #[.int .i64 0, .slice none 0 0] (0, 0) _ rfl HZ1.out Try.underlying24 rfl Try.tabSize) rfl ?_
      exact ⟨rfl, HZ2.out⟩
    · have h2' : decide (1 ≤ s ∧ s ≤ 8) = false := by simpa using h2
      rw [h2'] at HI2
      clear hb h1 h2 h2'
      go_enter Try.func11, Try.ntmps11
      go_wp2_with fail
      refine (HI1.out _).mono ?_
      rintro e w1 ⟨rfl, rfl⟩
      go_wp2_with fail
      refine (HI2.out _).mono ?_
      rintro e w1 ⟨rfl, rfl⟩
      go_wp2
      refine bodyPost_ret (results_row2 rfl _ _ w.heap.size 24 #[.int .i64 0, .slice none 0 0] (0, 0) _ rfl HZ1.out Try.underlying24 rfl Try.tabSize) rfl ?_
      exact ⟨rfl, HZ2.out⟩
  · have h1' : decide (1 ≤ n ∧ n ≤ 5) = false := by simpa using h1
    rw [h1'] at HI1
    clear hb h1 h1'
    go_enter Try.func11, Try.ntmps11
    go_wp2_with fail
    refine (HI1.out _).mono ?_
    rintro e w1 ⟨rfl, rfl⟩
    go_wp2
    refine bodyPost_ret (results_row2 rfl _ _ w.heap.size 24 #[.int .i64 0, .slice none 0 0] (0, 0) _ rfl HZ1.out Try.underlying24 rfl Try.tabSize) rfl ?_
    exact ⟨rfl, HZ2.out⟩

/-- behind i rows -/
structure Newed (w0 wr : World) (v : Value) (n c i : Nat) (ys : List X) : Prop where
  res : wr.heap[w0.heap.size]? = some (.cells #[.int .i64 0, .slice none 0 0] 24 (0, 0))
  tab : wr.heap[w0.heap.size + 1]? = some (.cells #[.int .i64 (n : Int), v] 24 (0, 0))
  own : OwnXs wr w0.heap.size v ys
  same : ys.map X.r = (List.range i).map (M.newRow n c)
  below : Below w0.heap.size w0 wr
/-- within the row i: behind j numbers -/
structure Rowing (wr w' : World) (u : Value) (prim : Int) (zs : List Int) : Prop where
  row : w'.heap[wr.heap.size]? = some (.cells #[.int .u64 0, .int .u64 1, .int .i64 prim, u] 42 (0, 0))
  own : OwnV w' (wr.heap.size + 1) 3 u (ints zs)
  below : Below wr.heap.size wr w'

set_option maxHeartbeats 4000000 in
theorem new_ok (n s c : Nat) (hn1 : 1 ≤ n) (hn5 : n ≤ 5) (hs1 : 1 ≤ s) (hs8 : s ≤ 8) (hc1 : 1 ≤ c) (hcn : c ≤ n) (w : World) : Calls Try.prog 11 #[.int .i64 (n : Int), .int .i64 (s : Int), .int .i64 (c : Int)] w (NewOk n s c w) := by
  obtain ⟨i0, hi, hz0, hz1, hz2⟩ := info_of Try.infoInt
  have HI := Lib.hid hi; have HZ0 := Lib.hid hz0; have HZ1 := Lib.hid hz1; have HZ2 := Lib.hid hz2
  clear hi hz0 hz1 hz2
  obtain ⟨i1, hi, hz0, hz1, hz2⟩ := info_of Try.infoShard
  have HJ := Lib.hid hi; have HY0 := Lib.hid hz0; have HY1 := Lib.hid hz1; have HY2 := Lib.hid hz2
  clear hi hz0 hz1 hz2
  have HI1 := Lib.hid (fun W => within_any (n : Int) 1 5 W)
  have HI2 := Lib.hid (fun W => within_any (s : Int) 1 8 W)
  have HI3 := Lib.hid (fun W => within_any (c : Int) 1 (n : Int) W)
  rw [show decide ((1 : Int) ≤ (n : Int) ∧ (n : Int) ≤ 5) = true from by simp; omega] at HI1
  rw [show decide ((1 : Int) ≤ (s : Int) ∧ (s : Int) ≤ 8) = true from by simp; omega] at HI2
  rw [show decide ((1 : Int) ≤ (c : Int) ∧ (c : Int) ≤ (n : Int)) = true from by simp; omega] at HI3
  obtain ⟨w1, hw1⟩ : ∃ w1, w1 = (w.alloc (.cells #[.int .i64 0, .slice none 0 0] 24)).alloc (.cells #[.int .i64 (n : Int), .slice none 0 0] 24) := ⟨_, rfl⟩
  have h0 : Newed w w1 (.slice none 0 0) n c 0 [] := by
    rw [hw1]
    refine ⟨heapOld (heapNew (w := w) _), ?_, ⟨World.ownsRow_nil _ _ _ _, (fun x hx => by cases hx), List.Pairwise.nil⟩, rfl, (bel_alloc' w _).alloc (by simp) _⟩
    have := heapNew (w := w.alloc (.cells #[.int .i64 0, .slice none 0 0] 24)) (.cells #[.int .i64 (n : Int), .slice none 0 0] 24)
    simpa using this
  have H0 := Lib.hid h0
  have HW1 := Lib.hid hw1.symm
  clear h0 hw1
  go_enter Try.func11, Try.ntmps11
  go_wp2_with fail
  refine (HI1.out _).mono ?_
  rintro e w2 ⟨rfl, rfl⟩
  go_wp2_with fail
  refine (HI2.out _).mono ?_
  rintro e w2 ⟨rfl, rfl⟩
  go_wp2_with fail
  refine (HI3.out _).mono ?_
  rintro e w2 ⟨rfl, rfl⟩
  go_wp2
  rw [HW1.out]
  go_loopw [30] (fun p wr => ∃ (i : Nat) (v : Value) (ys : List X), p = .int .i64 (i : Int) ∧ i ≤ s ∧ Hid (ys.length = i) ∧ Hid (Newed w wr v n c i ys)) (fun p _ => s - (intOf p).toNat)
  case atStart => exact ⟨0, _, [], rfl, Nat.zero_le _, Lib.hid rfl, H0⟩
  case round =>
    clear H0 HW1
    obtain ⟨i, v, ys, rfl, hi, HL, HN⟩ := hrel
    rename World => wr
    by_cases hlt : i < s
    · have hpi : ((i : Int) % (n : Int)) = ((i % n : Nat) : Int) := (Int.natCast_emod i n).symm
      have hr0 : Rowing wr (wr.alloc (.cells #[.int .u64 0, .int .u64 1, .int .i64 ((i : Int) % (n : Int)), .slice none 0 0] 42)) (.slice none 0 0) ((i : Int) % (n : Int)) (M.newRaw n 0 i) :=
        ⟨heapNew (w := wr) _, OwnV.nil _ _ _, bel_alloc' wr _⟩
      have HR0 := Lib.hid hr0
      obtain ⟨P, hP⟩ : ∃ P, (i : Int) % (n : Int) = P := ⟨_, rfl⟩
      have HP := Lib.hid hP
      have HPI := Lib.hid (hP.symm.trans hpi)
      rw [hP] at HR0
      clear hr0 hpi
      go_wp2
      clear hP
      go_loopw [38] (fun p w' => ∃ (j : Nat) (u : Value), p = .int .i64 (j : Int) ∧ j ≤ c ∧ Hid (Rowing wr w' u P (M.newRaw n j i))) (fun p _ => c - (intOf p).toNat)
      case atStart => exact ⟨0, _, rfl, Nat.zero_le _, HR0⟩
      case round =>
        clear HR0
        obtain ⟨j, u, rfl, hj, HR⟩ := hrel
        rename World => wi
        obtain ⟨Au, cu, hu, hju, hcu⟩ := HR.out.own.form
        rw [ints_len, newRaw_len] at hu hju
        subst hu
        by_cases hjc : j < c
        · obtain ⟨val, hval⟩ : ∃ val : Int, ((i : Int) + (j : Int)) % (n : Int) = val := ⟨_, rfl⟩
          have HVAL := Lib.hid (show val = (((i + j) % n : Nat) : Int) by rw [← hval, Int.natCast_emod, Int.natCast_add])
          have hk3 : wi.cell? ⟨wr.heap.size, 3, none⟩ = some (.slice Au j cu) := cellAt 3 HR.out.row
          have hf3 : wi.frozen? ⟨wr.heap.size, 3, none⟩ = false := freeAt 3 HR.out.row
          have hgl : wr.heap.size < wi.heap.size := heapLt HR.out.row
          have HOND := Lib.hid (show World.ownsRow (wi.alloc (.cells #[.int .i64 val] 3)).drew (wr.heap.size + 1) 3 1 (.slice Au j cu) j (ints (M.newRaw n j i)) by
            have h := HR.out.own
            unfold OwnV at h
            rw [ints_len, newRaw_len] at h
            exact World.ownsRow.alloc h _)
          have hw0 : IntKind.i64.wrap ((i : Int) + (j : Int)) = (i : Int) + (j : Int) := by rw [IntKind.wrap_i64]; omega
          have htm : ((i : Int) + (j : Int)).tmod (n : Int) = val := by rw [Int.tmod_eq_emod_of_nonneg (by omega), hval]
          have hn0 : ¬ n = 0 := by omega
          clear hval
          go_wp2_with fail
          go_region_law (first
            | (refine step_append_lies _ (by rfl) _ _ _ (by rfl) (wr.heap.size + 1) 3 i0 _ 1 8 Try.underlying40 HI.out HZ0.out HZ1.out HZ2.out rfl (by omega) (.slice Au j cu) j (ints (M.newRaw n j i)) (by rfl) HOND.out ⟨wi.heap.size, 0, none⟩ 1 1 [.int .i64 val] (by rfl) (by rfl) (World.news_of_block (cs := #[.int .i64 val]) (t := 3) (fr := (0, 0)) (heap_alloc_new wi _)) (by simp [Value.oneCell']) (by omega) (by simp only [maxLen]; omega) (by omega) (by simp; omega) (wi.heap.size + 1) (by simp) ?_; intro g8 cap8 w8 hown8 hgrow8 hat8 hlt8
               have hne8 : (Value.slice Au j cu).ownBlock ≠ some wr.heap.size := fun e => by have := (World.ownsRow.lt HOND.out _ e).1; omega
               have hrow8 : w8.heap[wr.heap.size]? = some (.cells #[.int .u64 0, .int .u64 1, .int .i64 P, .slice Au j cu] 42 (0, 0)) := (hgrow8.block wr.heap.size (by simp; omega) (fun e => hne8 e.symm)).trans (heapOld HR.out.row)
               have y3 : w8.cell? ⟨wr.heap.size, 3, none⟩ = some (.slice Au j cu) := cellAt 3 hrow8
               have yf : w8.frozen? ⟨wr.heap.size, 3, none⟩ = false := freeAt 3 hrow8
               have HOWN8 := Lib.hid hown8; have HGROW8 := Lib.hid hgrow8; have HAT8 := Lib.hid hat8; have HROW8 := Lib.hid hrow8
               clear hown8 hgrow8 hat8 hrow8 hne8))
          all_goals
            have hra : Rowing wr (w8.setCell ⟨wr.heap.size, 3, none⟩ (.slice (some ⟨g8, 0, none⟩) (j + 1) cap8)) (.slice (some ⟨g8, 0, none⟩) (j + 1) cap8) P (M.newRaw n (j + 1) i) := by
              have hpre : Below wr.heap.size wr (wi.alloc (.cells #[.int .i64 val] 3)).drew := by
                have h := HR.out.below.alloc HR.out.below.size (.cells #[.int .i64 val] 3)
                exact ⟨h.os, h.tape, h.output, h.size, h.block⟩
              have hb8 : Below wr.heap.size wr w8 := hpre.grown HGROW8.out hpre.size (fun k' hk' => by have := (World.ownsRow.lt HOND.out k' hk').1; omega)
              have ho8 : OwnV w8 (wr.heap.size + 1) 3 (.slice (some ⟨g8, 0, none⟩) (j + 1) cap8) (ints (M.newRaw n (j + 1) i)) := by
                unfold OwnV
                rw [ints_len, newRaw_len, newRaw_succ, ← HVAL.out, show ints (M.newRaw n j i ++ [val]) = ints (M.newRaw n j i) ++ [.int .i64 val] from by simp]
                exact HOWN8.out
              refine ⟨heapSet 3 _ HROW8.out, ?_, hb8.setCell (p := ⟨wr.heap.size, 3, none⟩) (Nat.le_refl _) _⟩
              exact ho8.turned (Turned.setCell (F := (· = wr.heap.size)) (Turned.refl _ w8) (p := ⟨wr.heap.size, 3, none⟩) (.inl rfl) _) (fun k' hk' e => by have := (ho8.lt k' hk').1; omega)
            have HRA := Lib.hid hra
            clear hra hw0 htm
            go_wp2
            exact ⟨⟨j + 1, _, by go_num, by omega, HRA⟩, by simp [intOf]; omega⟩
        · obtain rfl : j = c := by omega
          obtain ⟨gu, rfl⟩ : ∃ gu, Au = some ⟨gu, 0, none⟩ := by
            obtain ⟨gu, _, h1, _⟩ := HR.out.own.heapOf (by omega)
            exact ⟨gu, h1⟩
          have hk3 : wi.cell? ⟨wr.heap.size, 3, none⟩ = some (.slice (some ⟨gu, 0, none⟩) j cu) := cellAt 3 HR.out.row
          have hgl : wr.heap.size < wi.heap.size := heapLt HR.out.row
          have hsort := sort_any (wr.heap.size + 1) gu j cu (M.newRaw n j i) wi HR.out.own (by omega) (by omega)
          rw [M.raw_sort n j i hn5 (by omega) hcn] at hsort
          have HSORT := Lib.hid hsort
          have HGU := Lib.hid (show wr.heap.size + 1 ≤ gu from (HR.out.own.lt gu rfl).1)
          clear hsort
          go_wp2_with fail
          refine HSORT.out.mono ?_
          rintro e w6 ⟨rfl, hown6, ht6⟩
          have hgu := HGU.out
          have hbw : Below wr.heap.size wr w6 := HR.out.below.trans (Turned.below (F := (· = gu)) ht6 HR.out.below.size (fun q e => by omega))
          have hrow6 : w6.heap[wr.heap.size]? = some (.cells #[.int .u64 0, .int .u64 1, .int .i64 P, .slice (some ⟨gu, 0, none⟩) j cu] 42 (0, 0)) := (ht6.block wr.heap.size hgl (by omega)).trans HR.out.row
          have hres6 := (hbw.block w.heap.size (heapLt HN.out.res)).trans HN.out.res
          have htab6 := (hbw.block (w.heap.size + 1) (heapLt HN.out.tab)).trans HN.out.tab
          have hown6' := HN.out.own.below hbw
          obtain ⟨Av, cv, hv, hcv, hcvm⟩ := row_form hown6'.row
          subst hv
          have t0 : w6.cell? ⟨w.heap.size + 1, 0, none⟩ = some (.int .i64 (n : Int)) := cellAt 0 htab6
          have t1 : w6.cell? ⟨w.heap.size + 1, 1, none⟩ = some (.slice Av ys.length cv) := cellAt 1 htab6
          have r0 : w6.cell? ⟨wr.heap.size, 0, none⟩ = some (.int .u64 0) := cellAt 0 hrow6
          have r1 : w6.cell? ⟨wr.heap.size, 1, none⟩ = some (.int .u64 1) := cellAt 1 hrow6
          have r2 : w6.cell? ⟨wr.heap.size, 2, none⟩ = some (.int .i64 P) := cellAt 2 hrow6
          have r3 : w6.cell? ⟨wr.heap.size, 3, none⟩ = some (.slice (some ⟨gu, 0, none⟩) j cu) := cellAt 3 hrow6
          have htl : w.heap.size + 1 < w6.heap.size := heapLt htab6
          have HROWA := Lib.hid (World.ownsRow.alloc hown6'.row (.cells #[.int .u64 0, .int .u64 1, .int .i64 P, .slice (some ⟨gu, 0, none⟩) j cu] 42))
          have HO6 := Lib.hid hown6; have HT6 := Lib.hid ht6; have HBW := Lib.hid hbw; have HROW6 := Lib.hid hrow6; have HRES6 := Lib.hid hres6; have HTAB6 := Lib.hid htab6; have HOX6 := Lib.hid hown6'
          have hyl := HL.out
          have hws : w.heap.size ≤ w6.heap.size := by omega
          clear hown6 ht6 hbw hrow6 hres6 htab6 hown6' HSORT hk3
          rw [hyl] at t1 HROWA
          clear hyl
          go_wp2_with (at_builtin; go_must (refine wpList_appX (w6.alloc _) rfl (.tmp 56) (.tmp 58) _ rfl w.heap.size 42 i1 _ 4 48 Try.underlying22 HJ.out HY0.out HY1.out HY2.out rfl (by omega) (.slice Av i cv) i (xcells ys) HROWA.out rfl ⟨w6.heap.size, 0, none⟩ 1 1 [.int .u64 0, .int .u64 1, .int .i64 P, .slice (some ⟨gu, 0, none⟩) j cu] rfl rfl (World.news_of_block (cs := #[.int .u64 0, .int .u64 1, .int .i64 P, .slice (some ⟨gu, 0, none⟩) j cu]) (t := 42) (fr := (0, 0)) (heap_alloc_new w6 _)) (by simp [Value.oneCell']) (by simp only [maxLen]; omega) (by omega) (by simp; omega) ?_))
          intro v7 w7 h1 h2 h3
          obtain ⟨A7, c7, hv7, hc7, hcm7⟩ := row_form h1
          subst hv7
          have hla : (w6.alloc (.cells #[.int .u64 0, .int .u64 1, .int .i64 P, .slice (some ⟨gu, 0, none⟩) j cu] 42)).heap.size = w6.heap.size + 1 := by simp
          have htabA := heapOld (o := .cells #[.int .u64 0, .int .u64 1, .int .i64 P, .slice (some ⟨gu, 0, none⟩) j cu] 42) HTAB6.out
          have hresA := heapOld (o := .cells #[.int .u64 0, .int .u64 1, .int .i64 P, .slice (some ⟨gu, 0, none⟩) j cu] 42) HRES6.out
          have hne1 := block_ne HROWA.out htabA (by decide)
          have hne0 := block_ne HROWA.out hresA (by decide)
          have htab7 := (h2.block (w.heap.size + 1) (heapLt htabA) (fun e => hne1 e.symm)).trans htabA
          have hres7 := (h2.block w.heap.size (heapLt hresA) (fun e => hne0 e.symm)).trans hresA
          have hkeep : ∀ {b : Nat} {u : Value} {zs : List Int}, OwnV w6 b 3 u (ints zs) → OwnV (w7.setCell ⟨w.heap.size + 1, 1, none⟩ (.slice A7 (i + 1) c7)) b 3 u (ints zs) := by
            intro b u zs ho
            have hoa := ho.alloc (.cells #[.int .u64 0, .int .u64 1, .int .i64 P, .slice (some ⟨gu, 0, none⟩) j cu] 42)
            have ho7 : OwnV w7 b 3 u (ints zs) := World.ownsRow.kept hoa h2 (by
              cases hb : u.ownBlock with
              | none => exact .inl rfl
              | some q =>
                refine .inr (fun e => ?_)
                rcases HROWA.out.2 with ⟨e2, _⟩ | ⟨g', cap, cur', e2, _, hh, _⟩
                · rw [e2] at e; cases e
                · rw [e2] at e
                  exact block_ne hoa hh (by decide) (by rw [hb, e]; rfl))
            refine ho7.turned (Turned.setCell (F := (· = w.heap.size + 1)) (Turned.refl _ w7) (p := ⟨w.heap.size + 1, 1, none⟩) (.inl rfl) _) (fun q hq e => ?_)
            exact block_ne ho7 htab7 (by decide) (by rw [hq, e])
          have hne7 := block_ne h1 htab7 (by decide)
          have hnew : Newed w (w7.setCell ⟨w.heap.size + 1, 1, none⟩ (.slice A7 (i + 1) c7)) (.slice A7 (i + 1) c7) n j (i + 1) (ys ++ [⟨M.newRow n j i, some ⟨gu, 0, none⟩, j, cu⟩]) := by
            refine ⟨heapFar hres7 (by show w.heap.size ≠ w.heap.size + 1; omega), heapSet 1 _ htab7, ⟨?_, ?_, ?_⟩, ?_, ?_⟩
            · rw [List.length_append, HL.out, xcells_app, List.length_singleton]
              have e1 : xcells [⟨M.newRow n j i, some ⟨gu, 0, none⟩, j, cu⟩] = [.int .u64 0, .int .u64 1, .int .i64 P, .slice (some ⟨gu, 0, none⟩) j cu] := by
                rw [HPI.out]; rfl
              rw [e1]
              exact row_turned h1 (Turned.setCell (F := (· = w.heap.size + 1)) (Turned.refl _ w7) (p := ⟨w.heap.size + 1, 1, none⟩) (.inl rfl) _) (fun q hq e => hne7 (by rw [hq, e]))
            · intro y hy
              rcases List.mem_append.1 hy with hy | hy
              · exact hkeep (HOX6.out.sl y hy)
              · simp only [List.mem_singleton] at hy
                subst hy
                exact (hkeep HO6.out).less (by have := HN.out.below.size; omega)
            · refine List.pairwise_append.2 ⟨HOX6.out.apart, by simp, fun y hy z hz b hb2 => ?_⟩
              simp only [List.mem_singleton] at hz
              subst hz
              intro e
              have e' : gu = b := Option.some.inj e
              have h4 := ((HN.out.own.sl y hy).lt b hb2).2
              have := HGU.out
              omega
            · rw [List.map_append, HN.out.same, List.range_succ, List.map_append]
              rfl
            · have h4 := (HN.out.below.trans (HBW.out.mono HN.out.below.size)).alloc hws (.cells #[.int .u64 0, .int .u64 1, .int .i64 P, .slice (some ⟨gu, 0, none⟩) j cu] 42)
              have h5 := h4.grown h2 (by rw [hla]; omega) (fun q hq => (World.ownsRow.lt HROWA.out q hq).1)
              exact h5.setCell (p := ⟨w.heap.size + 1, 1, none⟩) (by show w.heap.size ≤ w.heap.size + 1; omega) _
          have HNEW := Lib.hid hnew
          have HL2 := Lib.hid (show (ys ++ [(⟨M.newRow n j i, some ⟨gu, 0, none⟩, j, cu⟩ : X)]).length = i + 1 by rw [List.length_append, HL.out]; rfl)
          have hk7 : w7.cell? ⟨w.heap.size + 1, 1, none⟩ = some (.slice Av i cv) := by
            have := HL.out
            have h5 : w7.heap[w.heap.size + 1]? = some (.cells #[.int .i64 (n : Int), .slice Av ys.length cv] 24 (0, 0)) := htab7
            rw [this] at h5
            exact cellAt 1 h5
          have hf7 : w7.frozen? ⟨w.heap.size + 1, 1, none⟩ = false := freeAt 1 htab7
          clear h1 h2 h3 htabA hresA hne1 hne0 htab7 hres7 hkeep hne7 hnew hla t0 t1 r0 r1 r2 r3
          go_wp2
          exact ⟨⟨i + 1, _, _, by go_num, by omega, HL2, HNEW⟩, by simp [intOf]; omega⟩
    · obtain rfl : i = s := by omega
      obtain ⟨Av, cv, hv, hcv, hcvm⟩ := row_form HN.out.own.row
      subst hv
      have hyl := HL.out
      have htab := HN.out.tab
      have hres := HN.out.res
      have t0 : wr.cell? ⟨w.heap.size + 1, 0, none⟩ = some (.int .i64 (n : Int)) := cellAt 0 htab
      have t1 : wr.cell? ⟨w.heap.size + 1, 1, none⟩ = some (.slice Av ys.length cv) := cellAt 1 htab
      have p0 : wr.cell? ⟨w.heap.size, 0, none⟩ = some (.int .i64 0) := cellAt 0 hres
      have p1 : wr.cell? ⟨w.heap.size, 1, none⟩ = some (.slice none 0 0) := cellAt 1 hres
      have pf0 := freeAt 0 hres
      have pf1 := freeAt 1 hres
      have hT : Turned (· = w.heap.size) wr ((wr.setCell ⟨w.heap.size, 0, none⟩ (.int .i64 (n : Int))).setCell ⟨w.heap.size, 1, none⟩ (.slice Av ys.length cv)) :=
        Turned.setCell (F := (· = w.heap.size)) (Turned.setCell (F := (· = w.heap.size)) (Turned.refl _ wr) (p := ⟨w.heap.size, 0, none⟩) (.inl rfl) _) (p := ⟨w.heap.size, 1, none⟩) (.inl rfl) _
      have HE1 := Lib.hid (heapSet 1 (.slice Av ys.length cv) (heapSet 0 (.int .i64 (n : Int)) hres))
      have HE2 := Lib.hid (show OwnXs ((wr.setCell ⟨w.heap.size, 0, none⟩ (.int .i64 (n : Int))).setCell ⟨w.heap.size, 1, none⟩ (.slice Av ys.length cv)) w.heap.size (.slice Av ys.length cv) ys from by
        have h1 := HN.out.own
        refine ⟨row_turned h1.row hT (fun q hq e => block_ne h1.row hres (by decide) (by rw [hq, e])), fun y hy => (h1.sl y hy).turned hT (fun q hq e => block_ne (h1.sl y hy) hres (by decide) (by rw [hq, e])), h1.apart⟩)
      have HE3 := Lib.hid ((HN.out.below.setCell (p := ⟨w.heap.size, 0, none⟩) (Nat.le_refl _) (.int .i64 (n : Int))).setCell (p := ⟨w.heap.size, 1, none⟩) (Nat.le_refl _) (.slice Av ys.length cv))
      have HE4 := Lib.hid HN.out.same
      rw [hyl] at t1 HE1 HE2 HE3
      clear hyl htab hres hT
      go_wp2
      refine bodyPost_ret (results_row2 rfl _ _ w.heap.size 24 #[.int .i64 (n : Int), .slice Av i cv] (0, 0) _ rfl HE1.out Try.underlying24 rfl Try.tabSize) rfl ?_
      exact ⟨_, ys, rfl, HE2.out, HE4.out, HE3.out⟩
end Go.Proofs.Ytghnelfgnfhclaa
