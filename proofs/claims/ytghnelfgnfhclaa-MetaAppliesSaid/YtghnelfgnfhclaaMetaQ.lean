/-
  The document's New, by a contract.
-/
import Derived.Test.YtghnelfgnfhclaaMetaP
import Derived.Test.YtghnelfgnfhclaaMetaJ
namespace Go.Proofs.Ytghnelfgnfhclaa
open Go.RowKit Mem Go.ChangeShapes
set_option linter.unusedVariables false
set_option maxRecDepth 100000

/-- the numbers in sync of row s, as far as k nodes are seen -/
def newPre (n c s k : Nat) : List Int := ((List.range k).filter fun x => decide ((x + n - s % n) % n < c)).map Int.ofNat
theorem newPre_succ (n c s k : Nat) : newPre n c s (k + 1) = if (k + n - s % n) % n < c then newPre n c s k ++ [(k : Int)] else newPre n c s k := by
  unfold newPre
  rw [List.range_succ, List.filter_append, List.map_append, List.filter_cons, List.filter_nil]
  split
  · rename_i h
    rw [if_pos (by simpa using h)]
    rfl
  · rename_i h
    rw [if_neg (by simpa using h)]
    simp
theorem newPre_len (n c s k : Nat) : (newPre n c s k).length ≤ k := by
  unfold newPre
  rw [List.length_map]
  exact Nat.le_trans (List.length_filter_le _ _) (by rw [List.length_range]; exact Nat.le_refl _)
def NewRef (n s c : Nat) (w : World) (e : Ending) (w' : World) : Prop :=
  ∃ v' xs, e = .returned (.agg #[.int .i64 (n : Int), v']) ∧ OwnXs w' w.heap.size v' xs ∧ xs.map X.r = (M.new n s c).rows ∧ Below w.heap.size w w'

set_option maxHeartbeats 4000000 in
theorem refNew_any (n s c : Nat) (hn1 : 1 ≤ n) (hn5 : n ≤ 5) (hs8 : s ≤ 8) (hc5 : c ≤ 5) (w : World) : Calls Try.prog 13 #[.int .i64 (n : Int), .int .i64 (s : Int), .int .i64 (c : Int)] w (NewRef n s c w) := by
  obtain ⟨i0, hi, hz0, hz1, hz2⟩ := info_of Try.infoInt
  have HI := Lib.hid hi; have HZ0 := Lib.hid hz0; have HZ1 := Lib.hid hz1; have HZ2 := Lib.hid hz2
  clear hi hz0 hz1 hz2
  obtain ⟨i1, hi, hz0, hz1, hz2⟩ := info_of Try.infoShard
  have HJ := Lib.hid hi; have HY0 := Lib.hid hz0; have HY1 := Lib.hid hz1; have HY2 := Lib.hid hz2
  clear hi hz0 hz1 hz2
  obtain ⟨w1, hw1⟩ : ∃ w1, w1 = (w.alloc (.cells #[.int .i64 0, .slice none 0 0] 24)).alloc (.cells #[.int .i64 (n : Int), .slice none 0 0] 24) := ⟨_, rfl⟩
  have h0 : Newed w w1 (.slice none 0 0) n c 0 [] := by
    rw [hw1]
    refine ⟨heapOld (heapNew (w := w) _), ?_, ⟨World.ownsRow_nil _ _ _ _, (fun x hx => by cases hx), List.Pairwise.nil⟩, rfl, (bel_alloc' w _).alloc (by simp) _⟩
    have := heapNew (w := w.alloc (.cells #[.int .i64 0, .slice none 0 0] 24)) (.cells #[.int .i64 (n : Int), .slice none 0 0] 24)
    simpa using this
  have H0 := Lib.hid h0
  have HW1 := Lib.hid hw1.symm
  clear h0 hw1
  go_enter Try.func13, Try.ntmps13
  go_wp2
  rw [HW1.out]
  go_loopw [8] (fun p wr => ∃ (i : Nat) (v : Value) (ys : List X), p = .int .i64 (i : Int) ∧ i ≤ s ∧ Hid (ys.length = i) ∧ Hid (Newed w wr v n c i ys)) (fun p _ => s - (intOf p).toNat)
  case atStart => exact ⟨0, _, [], rfl, Nat.zero_le _, Lib.hid rfl, H0⟩
  case round =>
    clear H0 HW1
    obtain ⟨i, v, ys, rfl, hi, HL, HN⟩ := hrel
    rename World => wr
    by_cases hlt : i < s
    · have hpi : ((i : Int) % (n : Int)) = ((i % n : Nat) : Int) := (Int.natCast_emod i n).symm
      have hr0 : Rowing wr (wr.alloc (.cells #[.int .u64 0, .int .u64 1, .int .i64 ((i : Int) % (n : Int)), .slice none 0 0] 42)) (.slice none 0 0) ((i : Int) % (n : Int)) (newPre n c i 0) :=
        ⟨heapNew (w := wr) _, OwnV.nil _ _ _, bel_alloc' wr _⟩
      have HR0 := Lib.hid hr0
      have HPB := Lib.hid (show 0 ≤ (i : Int) % (n : Int) ∧ (i : Int) % (n : Int) < (n : Int) from ⟨Int.emod_nonneg _ (by omega), Int.emod_lt_of_pos _ (by omega)⟩)
      obtain ⟨P, hP⟩ : ∃ P, (i : Int) % (n : Int) = P := ⟨_, rfl⟩
      have HP := Lib.hid hP
      have HPI := Lib.hid (hP.symm.trans hpi)
      rw [hP] at HR0 HPB
      clear hr0 hpi
      go_wp2
      clear hP
      go_loopw [10] (fun p w' => ∃ (k : Nat) (u : Value), p = .int .i64 (k : Int) ∧ k ≤ n ∧ Hid (Rowing wr w' u P (newPre n c i k))) (fun p _ => n - (intOf p).toNat)
      case atStart => exact ⟨0, _, rfl, Nat.zero_le _, HR0⟩
      case round =>
        clear HR0
        obtain ⟨k, u, rfl, hk, HR⟩ := hrel
        rename World => wi
        obtain ⟨j, hj⟩ : ∃ j, j = (newPre n c i k).length := ⟨_, rfl⟩
        have hjk : j ≤ k := by rw [hj]; exact newPre_len _ _ _ _
        have HJL := Lib.hid hj
        obtain ⟨Au, cu, hu, hju, hcu⟩ := HR.out.own.form
        rw [ints_len, ← hj] at hu hju
        subst hu
        clear hj
        by_cases hkn : k < n
        · obtain ⟨val, hval⟩ : ∃ val : Int, ((k : Int) + (n : Int) - P) % (n : Int) = val := ⟨_, rfl⟩
          have hpb := HPB.out
          have HVAL := Lib.hid (show val = (((k + n - i % n) % n : Nat) : Int) by
            have h1 := HPI.out
            have h2 : i % n < n := Nat.mod_lt _ (by omega)
            have h3 : (k : Int) + (n : Int) - P = ((k + n - i % n : Nat) : Int) := by
              rw [h1]
              generalize i % n = q at *
              omega
            rw [← hval, h3, ← Int.natCast_emod])
          have hw0 : IntKind.i64.wrap ((k : Int) + (n : Int)) = (k : Int) + (n : Int) := by rw [IntKind.wrap_i64]; omega
          have hw1 : IntKind.i64.wrap ((k : Int) + (n : Int) - P) = (k : Int) + (n : Int) - P := by rw [IntKind.wrap_i64]; omega
          have htm : ((k : Int) + (n : Int) - P).tmod (n : Int) = val := by rw [Int.tmod_eq_emod_of_nonneg (by omega), hval]
          rw [← HP.out] at hw1 hval htm
          have hn0 : ¬ n = 0 := by omega
          rcases Decidable.em (val < (c : Int)) with hvc | hvc
          · have hpre : newPre n c i (k + 1) = newPre n c i k ++ [(k : Int)] := by rw [newPre_succ, if_pos (by have := HVAL.out; omega)]
            have HPRE := Lib.hid hpre
            clear hpre
            have hk3 : wi.cell? ⟨wr.heap.size, 3, none⟩ = some (.slice Au j cu) := cellAt 3 HR.out.row
            have hf3 : wi.frozen? ⟨wr.heap.size, 3, none⟩ = false := freeAt 3 HR.out.row
            have hgl : wr.heap.size < wi.heap.size := heapLt HR.out.row
            have HOND := Lib.hid (show World.ownsRow (wi.alloc (.cells #[.int .i64 (k : Int)] 3)) (wr.heap.size + 1) 3 1 (.slice Au j cu) j (ints (newPre n c i k)) by
              have h := HR.out.own
              unfold OwnV at h
              rw [ints_len, ← HJL.out] at h
              exact World.ownsRow.alloc h _)
            go_wp2_with (at_builtin; go_must (refine wpList_appX (wi.alloc _) rfl (.tmp 41) (.tmp 43) _ rfl (wr.heap.size + 1) 3 i0 _ 1 8 Try.underlying40 HI.out HZ0.out HZ1.out HZ2.out rfl (by omega) (.slice Au j cu) j (ints (newPre n c i k)) HOND.out rfl ⟨wi.heap.size, 0, none⟩ 1 1 [.int .i64 (k : Int)] rfl rfl (World.news_of_block (cs := #[.int .i64 (k : Int)]) (t := 3) (fr := (0, 0)) (heap_alloc_new wi _)) (by simp [Value.oneCell']) (by simp only [maxLen]; omega) (by omega) (by simp; omega) ?_))
            intro v8 w8 hown8 hgrow8 hat8
            clear hw0 hw1 hval htm hpb
            obtain ⟨A8, c8, hv8, hc8, hcm8⟩ := row_form hown8
            subst hv8
            have hne8 : (Value.slice Au j cu).ownBlock ≠ some wr.heap.size := fun e => by have := (World.ownsRow.lt HOND.out _ e).1; omega
            have hrow8 : w8.heap[wr.heap.size]? = some (.cells #[.int .u64 0, .int .u64 1, .int .i64 P, .slice Au j cu] 42 (0, 0)) := (hgrow8.block wr.heap.size (by simp; omega) (fun e => hne8 e.symm)).trans (heapOld HR.out.row)
            have y3 : w8.cell? ⟨wr.heap.size, 3, none⟩ = some (.slice Au j cu) := cellAt 3 hrow8
            have yf : w8.frozen? ⟨wr.heap.size, 3, none⟩ = false := freeAt 3 hrow8
            have hra : Rowing wr (w8.setCell ⟨wr.heap.size, 3, none⟩ (.slice A8 (j + 1) c8)) (.slice A8 (j + 1) c8) P (newPre n c i (k + 1)) := by
              have hpre : Below wr.heap.size wr (wi.alloc (.cells #[.int .i64 (k : Int)] 3)) := HR.out.below.alloc HR.out.below.size (.cells #[.int .i64 (k : Int)] 3)
              have hb8 : Below wr.heap.size wr w8 := hpre.grown hgrow8 hpre.size (fun k' hk' => by have := (World.ownsRow.lt HOND.out k' hk').1; omega)
              have ho8 : OwnV w8 (wr.heap.size + 1) 3 (.slice A8 (j + 1) c8) (ints (newPre n c i (k + 1))) := by
                unfold OwnV
                rw [HPRE.out, show ints (newPre n c i k ++ [(k : Int)]) = ints (newPre n c i k) ++ [.int .i64 (k : Int)] from by simp, List.length_append, ints_len, ← HJL.out]
                exact hown8
              refine ⟨heapSet 3 _ hrow8, ?_, hb8.setCell (p := ⟨wr.heap.size, 3, none⟩) (Nat.le_refl _) _⟩
              exact ho8.turned (Turned.setCell (F := (· = wr.heap.size)) (Turned.refl _ w8) (p := ⟨wr.heap.size, 3, none⟩) (.inl rfl) _) (fun k' hk' e => by have := (ho8.lt k' hk').1; omega)
            have HRA := Lib.hid hra
            clear hra hown8 hgrow8 hat8 hne8 hrow8
            go_wp2
            exact ⟨⟨k + 1, _, by go_num, by omega, HRA⟩, by simp [intOf]; omega⟩
          · have HRA := Lib.hid (show Rowing wr wi (.slice Au j cu) P (newPre n c i (k + 1)) by rw [newPre_succ, if_neg (by have := HVAL.out; omega)]; exact HR.out)
            clear HR
            go_wp2
            exact ⟨⟨k + 1, _, by go_num, by omega, HRA⟩, by simp [intOf]; omega⟩
        · obtain rfl : k = n := by omega
          have hgl : wr.heap.size < wi.heap.size := heapLt HR.out.row
          have hown6 := HR.out.own
          have hbw : Below wr.heap.size wr wi := HR.out.below
          have hrow6 := HR.out.row
          have hres6 := (hbw.block w.heap.size (heapLt HN.out.res)).trans HN.out.res
          have htab6 := (hbw.block (w.heap.size + 1) (heapLt HN.out.tab)).trans HN.out.tab
          have hown6' := HN.out.own.below hbw
          obtain ⟨Av, cv, hv, hcv, hcvm⟩ := row_form hown6'.row
          subst hv
          have t0 : wi.cell? ⟨w.heap.size + 1, 0, none⟩ = some (.int .i64 (k : Int)) := cellAt 0 htab6
          have t1 : wi.cell? ⟨w.heap.size + 1, 1, none⟩ = some (.slice Av ys.length cv) := cellAt 1 htab6
          have r0 : wi.cell? ⟨wr.heap.size, 0, none⟩ = some (.int .u64 0) := cellAt 0 hrow6
          have r1 : wi.cell? ⟨wr.heap.size, 1, none⟩ = some (.int .u64 1) := cellAt 1 hrow6
          have r2 : wi.cell? ⟨wr.heap.size, 2, none⟩ = some (.int .i64 P) := cellAt 2 hrow6
          have r3 : wi.cell? ⟨wr.heap.size, 3, none⟩ = some (.slice Au j cu) := cellAt 3 hrow6
          have htl : w.heap.size + 1 < wi.heap.size := heapLt htab6
          have HROWA := Lib.hid (World.ownsRow.alloc hown6'.row (.cells #[.int .u64 0, .int .u64 1, .int .i64 P, .slice Au j cu] 42))
          have HO6 := Lib.hid hown6; have HBW := Lib.hid hbw; have HROW6 := Lib.hid hrow6; have HRES6 := Lib.hid hres6; have HTAB6 := Lib.hid htab6; have HOX6 := Lib.hid hown6'
          have hyl := HL.out
          have hws : w.heap.size ≤ wi.heap.size := by omega
          clear hown6 hbw hrow6 hres6 htab6 hown6'
          rw [hyl] at t1 HROWA
          clear hyl
          go_wp2_with (at_builtin; go_must (refine wpList_appX (wi.alloc _) rfl (.tmp 47) (.tmp 49) _ rfl w.heap.size 42 i1 _ 4 48 Try.underlying22 HJ.out HY0.out HY1.out HY2.out rfl (by omega) (.slice Av i cv) i (xcells ys) HROWA.out rfl ⟨wi.heap.size, 0, none⟩ 1 1 [.int .u64 0, .int .u64 1, .int .i64 P, .slice Au j cu] rfl rfl (World.news_of_block (cs := #[.int .u64 0, .int .u64 1, .int .i64 P, .slice Au j cu]) (t := 42) (fr := (0, 0)) (heap_alloc_new wi _)) (by simp [Value.oneCell']) (by simp only [maxLen]; omega) (by omega) (by simp; omega) ?_))
          intro v7 w7 h1 h2 h3
          obtain ⟨A7, c7, hv7, hc7, hcm7⟩ := row_form h1
          subst hv7
          have hla : (wi.alloc (.cells #[.int .u64 0, .int .u64 1, .int .i64 P, .slice Au j cu] 42)).heap.size = wi.heap.size + 1 := by simp
          have htabA := heapOld (o := .cells #[.int .u64 0, .int .u64 1, .int .i64 P, .slice Au j cu] 42) HTAB6.out
          have hresA := heapOld (o := .cells #[.int .u64 0, .int .u64 1, .int .i64 P, .slice Au j cu] 42) HRES6.out
          have hne1 := block_ne HROWA.out htabA (by decide)
          have hne0 := block_ne HROWA.out hresA (by decide)
          have htab7 := (h2.block (w.heap.size + 1) (heapLt htabA) (fun e => hne1 e.symm)).trans htabA
          have hres7 := (h2.block w.heap.size (heapLt hresA) (fun e => hne0 e.symm)).trans hresA
          have hkeep : ∀ {b : Nat} {u : Value} {zs : List Int}, OwnV wi b 3 u (ints zs) → OwnV (w7.setCell ⟨w.heap.size + 1, 1, none⟩ (.slice A7 (i + 1) c7)) b 3 u (ints zs) := by
            intro b u zs ho
            have hoa := ho.alloc (.cells #[.int .u64 0, .int .u64 1, .int .i64 P, .slice Au j cu] 42)
            have ho7 : OwnV w7 b 3 u (ints zs) := World.ownsRow.kept hoa h2 (by
              cases hb : u.ownBlock with
              | none => exact .inl rfl
              | some q =>
                refine .inr (fun e => ?_)
                rcases HROWA.out.2 with ⟨e2, _⟩ | ⟨g', cap, cur', e2, _, hh, _⟩
                · rw [e2] at e; cases e
                · rw [e2] at e
                  exact block_ne hoa hh (by decide) (by rw [hb, e]; rfl))
            refine ho7.turned (Turned.setCell (F := (· = w.heap.size + 1)) (Turned.refl _ w7) (p := ⟨w.heap.size + 1, 1, none⟩) (.inl rfl) _) (fun q hq e => ?_)
            exact block_ne ho7 htab7 (by decide) (by rw [hq, e])
          have hne7 := block_ne h1 htab7 (by decide)
          have hnew : Newed w (w7.setCell ⟨w.heap.size + 1, 1, none⟩ (.slice A7 (i + 1) c7)) (.slice A7 (i + 1) c7) k c (i + 1) (ys ++ [⟨M.newRow k c i, Au, j, cu⟩]) := by
            refine ⟨heapFar hres7 (by show w.heap.size ≠ w.heap.size + 1; omega), heapSet 1 _ htab7, ⟨?_, ?_, ?_⟩, ?_, ?_⟩
            · rw [List.length_append, HL.out, xcells_app, List.length_singleton]
              have e1 : xcells [⟨M.newRow k c i, Au, j, cu⟩] = [.int .u64 0, .int .u64 1, .int .i64 P, .slice Au j cu] := by
                rw [HPI.out]; rfl
              rw [e1]
              exact row_turned h1 (Turned.setCell (F := (· = w.heap.size + 1)) (Turned.refl _ w7) (p := ⟨w.heap.size + 1, 1, none⟩) (.inl rfl) _) (fun q hq e => hne7 (by rw [hq, e]))
            · intro y hy
              rcases List.mem_append.1 hy with hy | hy
              · exact hkeep (HOX6.out.sl y hy)
              · simp only [List.mem_singleton] at hy
                subst hy
                exact (hkeep HO6.out).less (by have := HN.out.below.size; omega)
            · refine List.pairwise_append.2 ⟨HOX6.out.apart, by simp, fun y hy z hz b hb2 => ?_⟩
              simp only [List.mem_singleton] at hz
              subst hz
              intro e
              have h4 := ((HN.out.own.sl y hy).lt b hb2).2
              have h5 := (HO6.out.lt b e).1
              omega
            · rw [List.map_append, HN.out.same, List.range_succ, List.map_append]
              rfl
            · have h4 := (HN.out.below.trans (HBW.out.mono HN.out.below.size)).alloc hws (.cells #[.int .u64 0, .int .u64 1, .int .i64 P, .slice Au j cu] 42)
              have h5 := h4.grown h2 (by rw [hla]; omega) (fun q hq => (World.ownsRow.lt HROWA.out q hq).1)
              exact h5.setCell (p := ⟨w.heap.size + 1, 1, none⟩) (by show w.heap.size ≤ w.heap.size + 1; omega) _
          have HNEW := Lib.hid hnew
          have HL2 := Lib.hid (show (ys ++ [(⟨M.newRow k c i, Au, j, cu⟩ : X)]).length = i + 1 by rw [List.length_append, HL.out]; rfl)
          have hk7 : w7.cell? ⟨w.heap.size + 1, 1, none⟩ = some (.slice Av i cv) := by
            have := HL.out
            have h5 : w7.heap[w.heap.size + 1]? = some (.cells #[.int .i64 (k : Int), .slice Av ys.length cv] 24 (0, 0)) := htab7
            rw [this] at h5
            exact cellAt 1 h5
          have hf7 : w7.frozen? ⟨w.heap.size + 1, 1, none⟩ = false := freeAt 1 htab7
          clear h1 h2 h3 htabA hresA hne1 hne0 htab7 hres7 hkeep hne7 hnew hla t0 t1 r0 r1 r2 r3
          go_wp2
          exact ⟨⟨i + 1, _, _, by go_num, by omega, HL2, HNEW⟩, by simp [intOf]; omega⟩
    · obtain rfl : i = s := by omega
      obtain ⟨Av, cv, hv, hcv, hcvm⟩ := row_form HN.out.own.row
      subst hv
      have hyl := HL.out
      have htab := HN.out.tab
      have hres := HN.out.res
      have t0 : wr.cell? ⟨w.heap.size + 1, 0, none⟩ = some (.int .i64 (n : Int)) := cellAt 0 htab
      have t1 : wr.cell? ⟨w.heap.size + 1, 1, none⟩ = some (.slice Av ys.length cv) := cellAt 1 htab
      have p0 : wr.cell? ⟨w.heap.size, 0, none⟩ = some (.int .i64 0) := cellAt 0 hres
      have p1 : wr.cell? ⟨w.heap.size, 1, none⟩ = some (.slice none 0 0) := cellAt 1 hres
      have pf0 := freeAt 0 hres
      have pf1 := freeAt 1 hres
      have hT : Turned (· = w.heap.size) wr ((wr.setCell ⟨w.heap.size, 0, none⟩ (.int .i64 (n : Int))).setCell ⟨w.heap.size, 1, none⟩ (.slice Av ys.length cv)) :=
        Turned.setCell (F := (· = w.heap.size)) (Turned.setCell (F := (· = w.heap.size)) (Turned.refl _ wr) (p := ⟨w.heap.size, 0, none⟩) (.inl rfl) _) (p := ⟨w.heap.size, 1, none⟩) (.inl rfl) _
      have HE1 := Lib.hid (heapSet 1 (.slice Av ys.length cv) (heapSet 0 (.int .i64 (n : Int)) hres))
      have HE2 := Lib.hid (show OwnXs ((wr.setCell ⟨w.heap.size, 0, none⟩ (.int .i64 (n : Int))).setCell ⟨w.heap.size, 1, none⟩ (.slice Av ys.length cv)) w.heap.size (.slice Av ys.length cv) ys from by
        have h1 := HN.out.own
        refine ⟨row_turned h1.row hT (fun q hq e => block_ne h1.row hres (by decide) (by rw [hq, e])), fun y hy => (h1.sl y hy).turned hT (fun q hq e => block_ne (h1.sl y hy) hres (by decide) (by rw [hq, e])), h1.apart⟩)
      have HE3 := Lib.hid ((HN.out.below.setCell (p := ⟨w.heap.size, 0, none⟩) (Nat.le_refl _) (.int .i64 (n : Int))).setCell (p := ⟨w.heap.size, 1, none⟩) (Nat.le_refl _) (.slice Av ys.length cv))
      have HE4 := Lib.hid HN.out.same
      rw [hyl] at t1 HE1 HE2 HE3
      clear hyl htab hres hT
      go_wp2
      refine bodyPost_ret (results_row1 rfl _ _ w.heap.size 24 #[.int .i64 (n : Int), .slice Av i cv] (0, 0) _ rfl HE1.out Try.underlying24 rfl Try.tabSize) rfl ?_
      exact ⟨_, ys, rfl, HE2.out, HE4.out, HE3.out⟩
end Go.Proofs.Ytghnelfgnfhclaa
