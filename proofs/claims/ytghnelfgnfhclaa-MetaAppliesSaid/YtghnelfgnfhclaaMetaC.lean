/-
  Form, by a contract.
-/
import Derived.Test.YtghnelfgnfhclaaMetaB
namespace Go.Proofs.Ytghnelfgnfhclaa
open Go.RowKit Mem
set_option linter.unusedVariables false
set_option maxRecDepth 100000

theorem bel_alloc' (w : World) (o : Obj) : Below w.heap.size w (w.alloc o) := (Below.refl _ w).alloc (Nat.le_refl _) _
theorem bel_on {w w1 w2 : World} (h : Below w.heap.size w w1) (k : Below w1.heap.size w1 w2) : Below w.heap.size w w2 := h.trans (k.mono h.size)
theorem rowsAll_drop {rs : List M.R} {xs : List X} (e : xs.map X.r = rs) {i : Nat} (hi : i < xs.length) (f : M.R → Bool) : (rs.drop i).all f = (f xs[i].r && (rs.drop (i + 1)).all f) := by
  have hl : i < rs.length := by rw [← e]; simpa using hi
  rw [List.drop_eq_getElem_cons hl, List.all_cons]
  congr 2
  subst e
  simp

set_option maxHeartbeats 2000000 in
theorem form_any (v : Value) (t : M.T) (w : World) (h : RdT w w.heap.size v t) : Calls Try.prog 14 #[v] w (SaysB (M.form t) w) := by
  obtain ⟨A, n, c, xs, rfl, hx, hrows, hnodes⟩ := h
  obtain ⟨nodes, rows⟩ := t
  simp only at hrows hnodes ⊢
  have hlen := hx.len
  have hcap := hx.cap
  have hmax := hx.max
  have hlight := hx.light
  have hrl : rows.length = n := by rw [← hrows, List.length_map, hlen]
  have HXS := Lib.hid hx
  have HRO := Lib.hid hrows
  have HLN := Lib.hid hlen
  have HRR : Hid (M.form ⟨nodes, rows⟩ = (decide (1 ≤ nodes ∧ nodes ≤ 5) && decide (1 ≤ n ∧ n ≤ 8) && (rows.drop 0).all (fun r => M.rightRow r nodes))) := by show M.form _ = _; unfold M.form; rw [← hrl]; rfl
  generalize M.form ⟨nodes, rows⟩ = res at *
  have HI1 := Lib.hid (fun W => within_any nodes 1 5 W)
  have HI2 := Lib.hid (fun W => within_any (n : Int) 1 8 W)
  have hnat : decide ((1 : Int) ≤ (n : Int) ∧ (n : Int) ≤ 8) = decide (1 ≤ n ∧ n ≤ 8) := by
    rw [decide_eq_decide]; omega
  rw [hnat] at HI2
  have HN := Lib.hid hnodes
  have hb0 := bel_alloc' w (.cells #[.int .i64 nodes, .slice A n c] 24)
  have hbox := heapNew (w := w) (.cells #[.int .i64 nodes, .slice A n c] 24)
  obtain ⟨w1, hw1⟩ : ∃ w1, w1 = w.alloc (.cells #[.int .i64 nodes, .slice A n c] 24) := ⟨_, rfl⟩
  rw [← hw1] at hb0 hbox
  have HB0 := Lib.hid hb0
  have HBX := Lib.hid hbox
  have HW1 := Lib.hid hw1.symm
  have hs1 : w1.heap.size = w.heap.size + 1 := by rw [hw1]; simp
  have HS1 := Lib.hid hs1
  clear hx hrows hlen hnodes hb0 hbox hw1 hrl hnat hs1
  have HC0 : Hid (w1.cell? ⟨w.heap.size, 0, none⟩ = some (.int .i64 nodes)) := cellAt 0 HBX.out
  have HC1 : Hid (w1.cell? ⟨w.heap.size, 1, none⟩ = some (.slice A n c)) := cellAt 1 HBX.out
  by_cases h1 : decide (1 ≤ nodes ∧ nodes ≤ 5) = true
  · rw [h1] at HI1 HRR
    by_cases h2 : decide (1 ≤ n ∧ n ≤ 8) = true
    · rw [h2, Bool.true_and, Bool.true_and] at HRR
      rw [h2] at HI2
      clear h1 h2
      go_enter Try.func14, Try.ntmps14
      go_wp2_with fail
      rw [HW1.out]
      refine (HI1.out w1).mono ?_
      rintro e w2 ⟨rfl, rfl⟩
      have c0 := HC0.out; have c1 := HC1.out
      go_wp2_with fail
      refine (HI2.out w2).mono ?_
      rintro e w3 ⟨rfl, rfl⟩
      have c0 := HC0.out; have c1 := HC1.out
      go_wp2
      go_loopw [19] (fun p wr => ∃ i : Nat, p = .int .i64 (i : Int) ∧ i ≤ n ∧ Hid (res = (rows.drop i).all (fun r => M.rightRow r nodes)) ∧ Hid (Below w3.heap.size w3 wr)) (fun p _ => n - (intOf p).toNat)
      case atStart => exact ⟨0, rfl, Nat.zero_le _, HRR, Lib.hid (Below.refl _ _)⟩
      case round =>
        clear HRR c0 c1
        obtain ⟨i, rfl, hi, HR, HB⟩ := hrel
        rename World => wr
        by_cases hlt : i < n
        · obtain ⟨b, off, rfl, hbb, hc⟩ := HXS.out.cells (by omega)
          have hil : i < xs.length := by have := HLN.out; omega
          have hall := rowsAll_drop HRO.out hil (fun r => M.rightRow r nodes)
          have hrx := HXS.out.rows xs[i] (List.getElem_mem hil)
          have hat := (hc i hil).keep (w' := wr) hbb (fun p hp => (bel_on HB0.out HB.out).cell hp)
          have c0 := (HB.out.cell (p := ⟨w.heap.size, 0, none⟩) (by have := HS1.out; show w.heap.size < _; omega)).trans HC0.out
          obtain ⟨x, hxe⟩ : ∃ x, x = xs[i] := ⟨_, rfl⟩
          rw [← hxe] at hall hrx hat
          have HR2 := HR.out.trans hall
          clear hall hc hxe
          obtain ⟨k0, k1, k2, k3⟩ := hat
          have hb2 := bel_alloc' wr (.cells #[.int .u64 (x.r.rev : Int), .int .u64 (x.r.term : Int), .int .i64 x.r.prim, .slice x.a x.n x.c] 42)
          have HCL := Lib.hid (rightRow_any x nodes HN.out (wr.alloc (.cells #[.int .u64 (x.r.rev : Int), .int .u64 (x.r.term : Int), .int .i64 x.r.prim, .slice x.a x.n x.c] 42)) ((hrx.below ((bel_on HB0.out HB.out).trans (hb2.mono (by have := HB0.out.size; have := HB.out.size; omega)))).more (by have := HB0.out.size; have := HB.out.size; simp; omega)))
          have HB2 := Lib.hid (HB.out.trans (hb2.mono HB.out.size))
          have c0a := (hb2.cell (p := ⟨w.heap.size, 0, none⟩) (by have := HS1.out; have := HB.out.size; show w.heap.size < _; omega)).trans c0
          unfold X.val at HCL
          have HRX := Lib.hid HR2
          clear HR HR2 hb2 hrx
          obtain ⟨⟨rev, term, prim, sync⟩, a, m, cc⟩ := x
          simp only at k0 k1 k2 k3 HCL HRX HB2 c0a
          clear c0
          have c00 := HC0.out
          clear HC0 HC1 HBX HW1 c1
          generalize M.rightRow ⟨rev, term, prim, sync⟩ nodes = q at *
          cases q with
          | true =>
            rw [Bool.true_and] at HRX
            go_wp2_with fail
            refine HCL.out.mono ?_
            rintro e w4 ⟨rfl, hb⟩
            have HB3 := Lib.hid (HB2.out.trans (hb.mono HB2.out.size))
            clear hb
            go_wp2
            exact ⟨⟨i + 1, by go_num, by omega, HRX, HB3⟩, by simp [intOf]; omega⟩
          | false =>
            rw [Bool.false_and] at HRX
            have HQ : Hid (res = false) := HRX
            go_wp2_with fail
            refine HCL.out.mono ?_
            rintro e w4 ⟨rfl, hb⟩
            have HB3 := Lib.hid (bel_on HB0.out (HB2.out.trans (hb.mono HB2.out.size)))
            clear hb
            go_wp2
            go_ret
            exact ⟨by rw [HQ.out]; rfl, HB3.out⟩
        · have HQ : Hid (res = true) := by
            refine Lib.hid ?_
            rw [HR.out, List.drop_eq_nil_of_le (by have := HRO.out; rw [← this]; have := HLN.out; simp; omega)]
            rfl
          have HB3 := Lib.hid (bel_on HB0.out HB.out)
          clear HR
          go_wp2
          go_ret
          exact ⟨by rw [HQ.out]; rfl, HB3.out⟩
    · have h2' : decide (1 ≤ n ∧ n ≤ 8) = false := by simpa using h2
      rw [h2', Bool.and_false, Bool.false_and] at HRR
      rw [h2'] at HI2
      have HQ : Hid (res = false) := HRR
      clear h1 h2 h2'
      go_enter Try.func14, Try.ntmps14
      go_wp2_with fail
      rw [HW1.out]
      refine (HI1.out w1).mono ?_
      rintro e w2 ⟨rfl, rfl⟩
      have c0 := HC0.out; have c1 := HC1.out
      go_wp2_with fail
      refine (HI2.out w2).mono ?_
      rintro e w3 ⟨rfl, rfl⟩
      have c0 := HC0.out; have c1 := HC1.out
      go_wp2
      go_ret
      exact ⟨by rw [HQ.out]; rfl, HB0.out⟩
  · have h1' : decide (1 ≤ nodes ∧ nodes ≤ 5) = false := by simpa using h1
    rw [h1', Bool.false_and, Bool.false_and] at HRR
    rw [h1'] at HI1
    have HQ : Hid (res = false) := HRR
    clear h1 h1'
    go_enter Try.func14, Try.ntmps14
    go_wp2_with fail
    rw [HW1.out]
    refine (HI1.out w1).mono ?_
    rintro e w2 ⟨rfl, rfl⟩
    have c0 := HC0.out; have c1 := HC1.out
    go_wp2
    go_ret
    exact ⟨by rw [HQ.out]; rfl, HB0.out⟩
end Go.Proofs.Ytghnelfgnfhclaa
