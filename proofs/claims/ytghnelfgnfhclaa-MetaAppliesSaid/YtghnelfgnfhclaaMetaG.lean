/-
  fits, by a contract.
-/
import Derived.Test.YtghnelfgnfhclaaMetaF
namespace Go.Proofs.Ytghnelfgnfhclaa
open Go.RowKit Mem Go.ChangeShapes
set_option linter.unusedVariables false
set_option maxRecDepth 100000

abbrev cval (c : M.C) : Value := .agg #[.int .u8 (c.kind : Int), .int .i64 c.shard, .int .i64 c.node, .int .u64 (c.rev : Int)]
structure CmdOk (c : M.C) : Prop where
  kind : c.kind < 256
  shard : I64 c.shard
  node : I64 c.node
  rev : c.rev < 18446744073709551616

theorem fits_place {t : M.T} {c : M.C} (h : M.place t c = false) : M.fits t c = false := by unfold M.fits; rw [h]; rfl
theorem row_at {t : M.T} {c : M.C} {k : Nat} {xs : List X} (he : xs.map X.r = t.rows) (hk : c.shard = (k : Int)) (hl : k < xs.length) : M.row t c = xs[k].r := by
  unfold M.row
  rw [hk, Int.toNat_natCast, ← he, List.getElem?_map, List.getElem?_eq_getElem hl]
  rfl

set_option maxHeartbeats 4000000 in
theorem fits_any (v : Value) (t : M.T) (c : M.C) (w : World) (h : RdT w w.heap.size v t) (hc : CmdOk c) : Calls Try.prog 30 #[v, cval c] w (SaysB (M.fits t c) w) := by
  obtain ⟨cb1, cb2, cb3, cb4⟩ := hc
  obtain ⟨kind, shard, node, crev⟩ := c
  simp only at cb1 cb2 cb3 cb4
  obtain ⟨A, n, cap, xs, rfl, hx, hrows, hnodes⟩ := h
  obtain ⟨K, hK⟩ : ∃ K : Int, (kind : Int) = K := ⟨_, rfl⟩
  have HKK := Lib.hid hK
  unfold cval
  simp only
  rw [hK]
  have hb1 := (bel_alloc' w (.cells #[.int .i64 t.nodes, .slice A n cap] 24)).alloc (by simp) (.cells #[.int .u8 K, .int .i64 shard, .int .i64 node, .int .u64 (crev : Int)] 39)
  have hbox := heapOld (o := .cells #[.int .u8 K, .int .i64 shard, .int .i64 node, .int .u64 (crev : Int)] 39) (heapNew (w := w) (.cells #[.int .i64 t.nodes, .slice A n cap] 24))
  have hcb := heapNew (w := w.alloc (.cells #[.int .i64 t.nodes, .slice A n cap] 24)) (.cells #[.int .u8 K, .int .i64 shard, .int .i64 node, .int .u64 (crev : Int)] 39)
  rw [show (w.alloc (.cells #[.int .i64 t.nodes, .slice A n cap] 24)).heap.size = w.heap.size + 1 from by simp] at hcb
  obtain ⟨w1, hw1⟩ : ∃ w1, w1 = (w.alloc (.cells #[.int .i64 t.nodes, .slice A n cap] 24)).alloc (.cells #[.int .u8 K, .int .i64 shard, .int .i64 node, .int .u64 (crev : Int)] 39) := ⟨_, rfl⟩
  rw [← hw1] at hb1 hbox hcb
  have hs1 : w1.heap.size = w.heap.size + 2 := by rw [hw1]; simp
  have HW1 := Lib.hid hw1.symm
  have HS1 := Lib.hid hs1
  have HF := Lib.hid (form_any (.agg #[.int .i64 t.nodes, .slice A n cap]) t w1 ⟨A, n, cap, xs, rfl, (hx.below hb1).more (by omega), hrows, hnodes⟩)
  have HXS := Lib.hid hx
  have HB1 := Lib.hid hb1; have HBX := Lib.hid hbox; have HCB := Lib.hid hcb; have HRO := Lib.hid hrows; have HN := Lib.hid hnodes; have HLN := Lib.hid hx.len
  have hlight := hx.light; have hcap := hx.cap; have hmax := hx.max
  have k0 : w1.cell? ⟨w.heap.size, 0, none⟩ = some (.int .i64 t.nodes) := cellAt 0 hbox
  have k1 : w1.cell? ⟨w.heap.size, 1, none⟩ = some (.slice A n cap) := cellAt 1 hbox
  have HI1 := Lib.hid (fun W => within_any shard 0 ((n : Int) - 1) W)
  have HI2 := Lib.hid (fun W => within_any node 0 (t.nodes - 1) W)
  have HRR : Hid (M.fits t ⟨kind, shard, node, crev⟩ = (M.form t && decide (0 ≤ shard ∧ shard ≤ (n : Int) - 1) && decide (0 ≤ node ∧ node ≤ t.nodes - 1) && M.turn (M.row t ⟨kind, shard, node, crev⟩) ⟨kind, shard, node, crev⟩ && M.does (M.row t ⟨kind, shard, node, crev⟩) ⟨kind, shard, node, crev⟩)) := by
    refine Lib.hid ?_
    unfold M.fits M.place
    have e1 : decide (0 ≤ shard ∧ shard < (t.rows.length : Int)) = decide (0 ≤ shard ∧ shard ≤ (n : Int) - 1) := by
      rw [decide_eq_decide, ← HRO.out, List.length_map, ← HLN.out]; omega
    have e2 : decide (0 ≤ node ∧ node < t.nodes) = decide (0 ≤ node ∧ node ≤ t.nodes - 1) := by
      rw [decide_eq_decide]; omega
    rw [e1, e2]
  generalize M.fits t ⟨kind, shard, node, crev⟩ = res at *
  -- the boxes, in a later world
  have HCELL := Lib.hid (show ∀ W, Below w1.heap.size w1 W → (W.cell? ⟨w.heap.size, 0, none⟩ = some (.int .i64 t.nodes) ∧ W.cell? ⟨w.heap.size, 1, none⟩ = some (.slice A n cap)) ∧ W.cell? ⟨w.heap.size + 1, 0, none⟩ = some (.int .u8 K) ∧ W.cell? ⟨w.heap.size + 1, 1, none⟩ = some (.int .i64 shard) ∧ W.cell? ⟨w.heap.size + 1, 2, none⟩ = some (.int .i64 node) ∧ W.cell? ⟨w.heap.size + 1, 3, none⟩ = some (.int .u64 (crev : Int)) from fun W hW =>
    have q1 := (hW.block w.heap.size (by rw [HS1.out]; omega)).trans HBX.out
    have q2 := (hW.block (w.heap.size + 1) (by rw [HS1.out]; omega)).trans HCB.out
    ⟨⟨cellAt 0 q1, cellAt 1 q1⟩, cellAt 0 q2, cellAt 1 q2, cellAt 2 q2, cellAt 3 q2⟩)
  clear hw1 hb1 hbox hcb hx hrows hs1
  unfold I64 at cb2 cb3 hnodes
  by_cases hform : M.form t = true
  · have hnn : 1 ≤ t.nodes ∧ t.nodes ≤ 5 := by
      unfold M.form at hform
      simp only [Bool.and_eq_true, decide_eq_true_eq] at hform
      exact hform.1.1
    have hnr : 1 ≤ n ∧ n ≤ 8 := by
      unfold M.form at hform
      simp only [Bool.and_eq_true, decide_eq_true_eq] at hform
      have := hform.1.2
      rw [← HRO.out, List.length_map, ← HLN.out] at this
      exact this
    rw [hform] at HF HRR
    by_cases h1 : decide (0 ≤ shard ∧ shard ≤ (n : Int) - 1) = true
    · rw [h1] at HI1 HRR
      by_cases h2 : decide (0 ≤ node ∧ node ≤ t.nodes - 1) = true
      · rw [h2] at HI2 HRR
        obtain ⟨k, hk⟩ := Int.eq_ofNat_of_zero_le (show 0 ≤ shard by simp only [decide_eq_true_eq] at h1; exact h1.1)
        subst hk
        have hkn : k < n := by simp only [decide_eq_true_eq] at h1; omega
        obtain ⟨b, off, rfl, hbb, hcl⟩ := HXS.out.cells (by omega)
        have hkl : k < xs.length := by have := HLN.out; omega
        have hre := row_at (c := ⟨kind, (k : Int), node, crev⟩) HRO.out rfl hkl
        have HRX := Lib.hid (HXS.out.rows xs[k] (List.getElem_mem hkl))
        have HAT := Lib.hid (hcl k hkl)
        rw [hre, Bool.and_self, Bool.and_self, Bool.true_and] at HRR
        clear hre hcl
        obtain ⟨x, hxe⟩ : ∃ x, x = xs[k] := ⟨_, rfl⟩
        rw [← hxe] at HRX HAT HRR
        clear hxe h1 h2 hform
        obtain ⟨⟨rev, term, prim, sync⟩, a, m, cc⟩ := x
        have HRR2 : Hid (res = (decide (crev = rev ∧ rev < 1152921504606846976 ∧ term < 1152921504606846976) && M.does ⟨rev, term, prim, sync⟩ ⟨kind, (k : Int), node, crev⟩)) := HRR
        clear HRR
        have HROW := Lib.hid (show ∀ W, Below w1.heap.size w1 W → ∃ W1, W1 = W.alloc (.cells #[.int .u64 (rev : Int), .int .u64 (term : Int), .int .i64 prim, .slice a m cc] 42) ∧ Below w1.heap.size w1 W1 ∧
            (W.cell? ⟨b, off + k * 4, none⟩ = some (.int .u64 (rev : Int)) ∧ W.cell? ⟨b, off + k * 4 + 1, none⟩ = some (.int .u64 (term : Int)) ∧ W.cell? ⟨b, off + k * 4 + 2, none⟩ = some (.int .i64 prim) ∧ W.cell? ⟨b, off + k * 4 + 3, none⟩ = some (.slice a m cc)) ∧
            (W1.cell? ⟨W.heap.size, 0, none⟩ = some (.int .u64 (rev : Int)) ∧ W1.cell? ⟨W.heap.size, 1, none⟩ = some (.int .u64 (term : Int)) ∧ W1.cell? ⟨W.heap.size, 2, none⟩ = some (.int .i64 prim) ∧ W1.cell? ⟨W.heap.size, 3, none⟩ = some (.slice a m cc)) from fun W hW =>
          ⟨_, rfl, hW.trans ((bel_alloc' W _).mono hW.size), HAT.out.keep hbb (fun p hp => (bel_on HB1.out hW).cell hp),
            cellAt 0 (heapNew (w := W) _), cellAt 1 (heapNew (w := W) _), cellAt 2 (heapNew (w := W) _), cellAt 3 (heapNew (w := W) _)⟩)
        have HCON := Lib.hid (fun W (hW : Below w1.heap.size w1 W) => contains_any w.heap.size m cc a sync node W (HRX.out.sl.below (bel_on HB1.out hW)))
        clear HAT
        go_enter Try.func30, Try.ntmps30
        go_wp2_with fail
        rw [HW1.out]
        refine HF.out.mono ?_
        rintro e w2 ⟨rfl, hb2⟩
        have HB2 := Lib.hid hb2
        obtain ⟨⟨c0, c1⟩, d0, d1, d2, d3⟩ := HCELL.out w2 hb2
        clear hb2
        go_wp2_with fail
        refine (HI1.out w2).mono ?_
        rintro e w3 ⟨rfl, rfl⟩
        go_wp2_with fail
        refine (HI2.out w3).mono ?_
        rintro e w4 ⟨rfl, rfl⟩
        obtain ⟨w5, hw5, hb5, ⟨r0, r1, r2, r3⟩, s0, s1, s2, s3⟩ := HROW.out w4 HB2.out
        obtain ⟨⟨c50, c51⟩, d50, d51, d52, d53⟩ := HCELL.out w5 hb5
        have HB5 := Lib.hid hb5
        have HWB := Lib.hid (bel_on HB1.out hb5)
        rw [hw5] at s0 s1 s2 s3 c50 c51 d50 d51 d52 d53
        have HW5 := Lib.hid hw5
        have hkn2 : (k : Int) < (n : Int) := by omega
        have HCN := Lib.hid (HCON.out w5 HB5.out)
        rw [hw5] at HCN
        have HWB2 := Lib.hid HWB.out
        rw [hw5] at HWB2
        clear hw5 hb5
        by_cases e1 : crev = rev
        · subst e1
          have hnn0 : ((crev : Int) != (crev : Int)) = false := by simp
          by_cases e2 : crev < 1152921504606846976
          · have e2i : decide ((1152921504606846976 : Int) ≤ (crev : Int)) = false := by simp; omega
            by_cases e3 : term < 1152921504606846976
            · have e3i : decide ((1152921504606846976 : Int) ≤ (term : Int)) = false := by simp; omega
              have HRR3 : Hid (res = M.does ⟨crev, term, prim, sync⟩ ⟨kind, (k : Int), node, crev⟩) := Lib.hid (by rw [HRR2.out, decide_eq_true ⟨rfl, e2, e3⟩, Bool.true_and])
              clear HRR2 e2 e3
              go_wp2_with fail
              refine HCN.out.mono ?_
              rintro e w6 ⟨rfl, rfl⟩
              unfold M.does at HRR3
              simp only at HRR3
              generalize sync.contains node = q at *
              by_cases K1 : K = 1
              · subst K1
                obtain rfl : kind = 1 := by have := HKK.out; omega
                have HQ : Hid (res = q) := HRR3
                go_wp2
                go_ret
                exact ⟨by rw [HQ.out]; rfl, HWB2.out⟩
              · have K1f : (K == 1) = false := by simpa using K1
                by_cases K2 : K = 2
                · subst K2
                  obtain rfl : kind = 2 := by have := HKK.out; omega
                  have HQ : Hid (res = !q) := HRR3
                  go_wp2
                  go_ret
                  exact ⟨by rw [HQ.out]; rfl, HWB2.out⟩
                · have K2f : (K == 2) = false := by simpa using K2
                  by_cases K3 : K = 3
                  · subst K3
                    obtain rfl : kind = 3 := by have := HKK.out; omega
                    have HQ : Hid (res = (q && decide (node ≠ prim))) := HRR3
                    cases q with
                    | true =>
                      by_cases hnp : node = prim
                      · have HQ2 : Hid (res = false) := Lib.hid (by rw [HQ.out]; simp [hnp])
                        have hf : (node != prim) = false := by simpa using hnp
                        go_wp2
                        go_ret
                        exact ⟨by rw [HQ2.out]; rfl, HWB2.out⟩
                      · have HQ2 : Hid (res = true) := Lib.hid (by rw [HQ.out]; simp [hnp])
                        have hf : (node != prim) = true := by simpa using hnp
                        go_wp2
                        go_ret
                        exact ⟨by rw [HQ2.out]; rfl, HWB2.out⟩
                    | false =>
                      have HQ2 : Hid (res = false) := HQ
                      go_wp2
                      go_ret
                      exact ⟨by rw [HQ2.out]; rfl, HWB2.out⟩
                  · have K3f : (K == 3) = false := by simpa using K3
                    have HQ : Hid (res = false) := Lib.hid (by
                      rw [HRR3.out]
                      have := HKK.out
                      split <;> first | rfl | (exfalso; omega))
                    go_wp2
                    go_ret
                    exact ⟨by rw [HQ.out]; rfl, HWB2.out⟩
            · have HQ : Hid (res = false) := Lib.hid (by rw [HRR2.out, decide_eq_false (by omega)]; rfl)
              have e3i : decide ((1152921504606846976 : Int) ≤ (term : Int)) = true := by simp; omega
              clear e2 e3
              go_wp2
              go_ret
              exact ⟨by rw [HQ.out]; rfl, HWB2.out⟩
          · have HQ : Hid (res = false) := Lib.hid (by rw [HRR2.out, decide_eq_false (by omega)]; rfl)
            have e2i : decide ((1152921504606846976 : Int) ≤ (crev : Int)) = true := by simp; omega
            clear e2
            go_wp2
            go_ret
            exact ⟨by rw [HQ.out]; rfl, HWB2.out⟩
        · have HQ : Hid (res = false) := Lib.hid (by rw [HRR2.out, decide_eq_false (by omega)]; rfl)
          have hne : ((crev : Int) != (rev : Int)) = true := by simp; omega
          go_wp2
          go_ret
          exact ⟨by rw [HQ.out]; rfl, HWB2.out⟩
      · have h2' : decide (0 ≤ node ∧ node ≤ t.nodes - 1) = false := by simpa using h2
        rw [h2'] at HI2 HRR
        have HQ : Hid (res = false) := HRR
        clear h1 h2 h2' hform
        go_enter Try.func30, Try.ntmps30
        go_wp2_with fail
        rw [HW1.out]
        refine HF.out.mono ?_
        rintro e w2 ⟨rfl, hb2⟩
        have HB2 := Lib.hid hb2
        obtain ⟨⟨c0, c1⟩, d0, d1, d2, d3⟩ := HCELL.out w2 hb2
        clear hb2
        go_wp2_with fail
        refine (HI1.out w2).mono ?_
        rintro e w3 ⟨rfl, rfl⟩
        go_wp2_with fail
        refine (HI2.out w3).mono ?_
        rintro e w4 ⟨rfl, rfl⟩
        go_wp2
        go_ret
        exact ⟨by rw [HQ.out]; rfl, bel_on HB1.out HB2.out⟩
    · have h1' : decide (0 ≤ shard ∧ shard ≤ (n : Int) - 1) = false := by simpa using h1
      rw [h1'] at HI1 HRR
      have HQ : Hid (res = false) := HRR
      clear h1 h1' hform
      go_enter Try.func30, Try.ntmps30
      go_wp2_with fail
      rw [HW1.out]
      refine HF.out.mono ?_
      rintro e w2 ⟨rfl, hb2⟩
      have HB2 := Lib.hid hb2
      obtain ⟨⟨c0, c1⟩, d0, d1, d2, d3⟩ := HCELL.out w2 hb2
      clear hb2
      go_wp2_with fail
      refine (HI1.out w2).mono ?_
      rintro e w3 ⟨rfl, rfl⟩
      go_wp2
      go_ret
      exact ⟨by rw [HQ.out]; rfl, bel_on HB1.out HB2.out⟩
  · have hform' : M.form t = false := by simpa using hform
    rw [hform'] at HF HRR
    have HQ : Hid (res = false) := HRR
    clear hform hform'
    go_enter Try.func30, Try.ntmps30
    go_wp2_with fail
    rw [HW1.out]
    refine HF.out.mono ?_
    rintro e w2 ⟨rfl, hb2⟩
    have HB2 := Lib.hid hb2
    clear hb2
    go_wp2
    go_ret
    exact ⟨by rw [HQ.out]; rfl, bel_on HB1.out HB2.out⟩
end Go.Proofs.Ytghnelfgnfhclaa
