/-
  A query as an argument, with the bound of its texts; the law SegNot, by the contracts.
-/
import Derived.Test.YthhgelaifapmmaaDoorSegS
namespace Go.Proofs.YthhgelaifapmmaaDoor
open Go.RowKit Mem Go.ChangeShapes Go.WideShapes Go.Deep
set_option linter.unusedVariables false
set_option maxRecDepth 100000

section
variable {H : Type} {enc : TypeId × Value → H} {w : World} {base fuel : Nat} {held : Bool}
theorem query_cellsS : ∀ (m fuel : Nat) (cs : List Value) (x : DataW H × List MemPlace), Rows.uptoBulk x.1 ≤ m → DataW.trod enc Tryd.prog w base (fun _ => true) held fuel 39 cs = some x → ∃ q : Q, cs = q.cells ∧ Q.Ok w w.heap.size q ∧ Q.Short q := by
  intro m
  induction m with
  | zero => intro fuel cs x hm; have := bulks.pos x.1; omega
  | succ m ih =>
    intro fuel cs x hm h
    obtain ⟨f0, f1, f2, f3, hs, ⟨t0, o0⟩, ⟨t1, o1⟩, ⟨t2, o2⟩, ⟨t3, o3⟩⟩ := Tryd.queryStruct
    obtain ⟨xs, n, _, hx, hl, hlen, hf⟩ := DataW.trod_struct hs h
    rw [Tryd.queryCells] at hl
    have hlen' : xs.length = 4 := by simpa using hlen
    match cs, hl, xs, hlen' with
    | [c0, c1, c2, c3], _, [x0, x1, x2, x3], _ =>
      have g0 := hf 0 f0 rfl
      have g1 := hf 1 f1 rfl
      have g2 := hf 2 f2 rfl
      have g3 := hf 3 f3 rfl
      rw [t0, o0, Tryd.u8Cells] at g0
      rw [t1, o1, Tryd.strCells] at g1
      rw [t2, o2, Tryd.i64Cells] at g2
      rw [t3, o3, Tryd.kidsCells] at g3
      obtain ⟨k, rfl, hk⟩ := open_u8 (v := c0) Tryd.underlying5 g0
      obtain ⟨s1, rfl, hs1⟩ := open_str (v := c1) Tryd.underlying9 g1
      have hs2 : s1.data.toList.length ≤ 9223372036854775807 := hs1
      obtain ⟨z, rfl, hz1, hz2⟩ := open_i64 (v := c2) Tryd.underlying2 g2
      obtain ⟨A, len, cap, rfl, hlc, hcm, _, hel⟩ := open_elemsB (v := c3) Tryd.underlying37 Tryd.queryCells' g3
      have hb3 : Rows.uptoBulk x3.1 ≤ m := by
        have : Rows.uptoBulk x3.1 < Rows.uptoBulk x.1 := by
          rw [hx]; simp only [List.map_cons, List.map_nil, Rows.uptoBulk, Rows.uptoBulkAll]; omega
        omega
      rcases Nat.eq_zero_or_pos len with h0 | h0
      · subst h0
        exact ⟨.mk k s1.data.toList z A 0 cap [], by simp only [Q.cells, str_bl], .mk hk ⟨hz1, hz2⟩ ⟨rfl, hlc, hcm, fun h => absurd h (by omega)⟩ (fun q h => by simp at h), .mk hs2 (fun q h => by simp at h)⟩
      · obtain ⟨b, off, rfl, hb, n', hi⟩ := hel h0
        have each : ∀ i, i < len → ∃ q : Q, (Q.Ok w w.heap.size q ∧ Q.Short q) ∧ ∀ j, j < 4 → w.cell? ⟨b, off + i * 4 + j, none⟩ = q.cells[j]? := fun i hin => by
          obtain ⟨cs, y, hlen, hat, htr, hlt⟩ := hi i hin
          obtain ⟨q, rfl, hok⟩ := ih n' cs y (by omega) htr
          rw [Tryd.queryCells] at hat
          exact ⟨q, hok, fun j hj => by have := hat j hj; rwa [← Nat.add_assoc] at this⟩
        obtain ⟨f, hfx⟩ := Go.Deep.choose_lt each
        refine ⟨.mk k s1.data.toList z (some ⟨b, off, none⟩) len cap ((List.range len).map f), by simp only [Q.cells, str_bl], .mk hk ⟨hz1, hz2⟩ ⟨by simp, hlc, hcm, fun _ => ⟨b, off, rfl, hb, fun i hi j hj => ?_⟩⟩ (fun q hq => ?_), .mk hs2 (fun q hq => ?_)⟩
        · have hin : i < len := by simpa using hi
          have e : ((List.range len).map f)[i] = f i := by simp
          rw [e]
          exact (hfx i hin).2 j hj
        · obtain ⟨i, hi, rfl⟩ := List.mem_map.1 hq
          exact (hfx i (List.mem_range.1 hi)).1.1
        · obtain ⟨i, hi, rfl⟩ := List.mem_map.1 hq
          exact (hfx i (List.mem_range.1 hi)).1.2

theorem open_queryS {r : Reach} {b0 : Nat} {v : Value} {d : DataW H} {p : List MemPlace} (hv : Value.okWide Tryd.prog w r b0 39 v) (h : DataW.Trod enc Tryd.prog w base (fun _ => true) held 39 v d p) :
    ∃ q : Q, v = q.val ∧ Q.Ok w w.heap.size q ∧ Q.Short q := by
  obtain ⟨f0, f1, f2, f3, hs, _⟩ := Tryd.queryStruct
  obtain ⟨cs, rfl, hsz⟩ := okWide_struct hs hv
  obtain ⟨fuel, hf⟩ := h
  obtain ⟨q, hcs, hok⟩ := query_cellsS _ _ _ _ (Nat.le_refl _) hf
  refine ⟨q, ?_, hok⟩
  obtain ⟨k, t, z, A, n, c, ks⟩ := q
  have : cs.toList = [.int .u8 (k : Int), .string ⟨t.toArray⟩, .int .i64 z, .slice A n c] := by simpa [Value.cells, Q.cells] using hcs
  unfold Q.val
  simp only
  rw [← this]
end

theorem mem_finds (ds : List M.D) (q : Q) (i : Nat) (hi : i < ds.length) : decide ((i : Int) ∈ finds ds q) = hasAt ds q i := by
  have : (i : Int) ∈ allN ds.length := List.mem_map.2 ⟨i, List.mem_range.2 hi, rfl⟩
  unfold finds
  rw [Bool.eq_iff_iff, decide_eq_true_iff, List.mem_filter]
  exact ⟨fun h => h.2, fun h => ⟨this, h⟩⟩
theorem finds_not (ds : List M.D) (q : Q) (g : Nat) (i : Int) : hasAt ds (.mk 5 [] 0 (some ⟨g, 0, none⟩) 1 1 [q]) i = !hasAt ds q i := by
  unfold hasAt
  rw [has_not]
theorem filter_both (p : Int → Bool) : ∀ l : List Int, (l.filter p).length + (l.filter fun x => !p x).length = l.length
  | [] => rfl
  | x :: r => by
    have := filter_both p r
    rw [List.filter_cons, List.filter_cons]
    cases p x <;> simp <;> omega
theorem finds_sum (ds : List M.D) (q : Q) (g : Nat) : (finds ds q).length + (finds ds (.mk 5 [] 0 (some ⟨g, 0, none⟩) 1 1 [q])).length = ds.length := by
  unfold finds
  rw [show hasAt ds (.mk 5 [] 0 (some ⟨g, 0, none⟩) 1 1 [q]) = fun x => !hasAt ds q x from funext (finds_not ds q g), filter_both]
  simp [allN]

set_option maxHeartbeats 8000000 in
theorem segNotLaw_any (A : Option Addr) (n c : Nat) (ds : List M.D) (q : Q) (w : World) (h : RdDocs w w.heap.size A n c ds) (htm : ∀ d ∈ ds, -9223372036854775808 ≤ d.time ∧ d.time ≤ 9223372036854775807) (hT : Tabs w) (hq : Q.Ok w w.heap.size q) (hqt : Q.Short q) :
    Calls Tryd.prog 9 #[.slice A n c, q.val] w (SaysB true w) := by
  have H := Lib.hid h; have HN := Lib.hid h.1; have HTM := Lib.hid htm; have HT := Lib.hid hT
  have hc := h.2.1; have hcm := h.2.2.1
  have HAW := Lib.hid (fun (W : World) (hb : Below w.heap.size w W) => awake9_any W (HT.out.below hb))
  have HFO := Lib.hid (fun (W : World) (hb : Below w.heap.size w W) => ref_forms_any A n c ds W (H.out.on hb))
  have HGR := Lib.hid (fun (W : World) (hb : Below w.heap.size w W) => great_any q W ((hq.on hb).more hb.size))
  have HFI := Lib.hid (fun (g base : Nat) (W : World) (hb : Below w.heap.size w W) (hS : SegAt W base g ds) (hl : ds.length ≤ 4096) (htx : ∀ d ∈ ds, d.text.length ≤ 512) => segFind_any g base ds q W hS (HT.out.below hb) hl htx ((hq.on hb).more hb.size) hqt)
  have HQ := Lib.hid hq; have HQS := Lib.hid hqt
  clear h htm hT hq hqt
  obtain ⟨k, t, z, Aq, nq, cq, ks⟩ := q
  unfold Q.val at HGR HFI ⊢
  simp only at HGR HFI ⊢
  obtain ⟨K, hK⟩ : ∃ K : Int, (k : Int) = K := ⟨_, rfl⟩
  have HKK := Lib.hid hK
  rw [hK] at HGR HFI ⊢
  clear hK
  obtain ⟨w1, hw1⟩ : ∃ w1, w1 = w.alloc (.cells #[.int .u8 K, .string ⟨t.toArray⟩, .int .i64 z, .slice Aq nq cq] 39) := ⟨_, rfl⟩
  have HB1 := Lib.hid (show Below w.heap.size w w1 by rw [hw1]; exact (Below.refl _ _).alloc (Nat.le_refl _) _)
  have HBX := Lib.hid (show BoxIn w1 w.heap.size K t z Aq nq cq by rw [hw1]; exact BoxIn.new w K t z Aq nq cq)
  have HW1 := Lib.hid hw1
  clear hw1
  go_enter Tryd.func9, Tryd.ntmps9
  go_wp2_with fail
  rw [← HW1.out]
  refine (HGR.out _ HB1.out).mono ?_
  rintro e w2 ⟨gr, rfl, hb2⟩
  have HBX2 := Lib.hid (HBX.out.on hb2)
  have HB2 := Lib.hid (HB1.out.trans (hb2.mono HB1.out.size))
  clear hb2 HBX HB1 HGR HW1
  cases gr with
  | true =>
    go_wp2_with fail
    refine (HAW.out _ HB2.out).mono ?_
    rintro e w3 ⟨rfl, hb3⟩
    have HB3 := Lib.hid (HB2.out.trans (hb3.mono HB2.out.size))
    clear hb3
    go_wp2
    go_ret
    exact ⟨rfl, HB3.out⟩
  | false =>
    go_wp2_with fail
    refine (HAW.out _ HB2.out).mono ?_
    rintro e w3 ⟨rfl, hb3⟩
    have HBX3 := Lib.hid (HBX2.out.on hb3)
    have HB3 := Lib.hid (HB2.out.trans (hb3.mono HB2.out.size))
    clear hb3 HBX2 HB2
    go_wp2_with fail
    refine (HFO.out _ HB3.out).mono ?_
    rintro e w4 ⟨rfl, hb4⟩
    have HBX4 := Lib.hid (HBX3.out.on hb4)
    have HB4 := Lib.hid (HB3.out.trans (hb4.mono HB3.out.size))
    clear hb4 HBX3 HB3 HFO
    cases hfo : (ds.all fun d => M.formB d.id d.text) with
    | false =>
      go_wp2_with fail
      refine (HAW.out _ HB4.out).mono ?_
      rintro e w5 ⟨rfl, hb5⟩
      have HB5 := Lib.hid (HB4.out.trans (hb5.mono HB4.out.size))
      clear hb5
      go_wp2
      go_ret
      exact ⟨rfl, HB5.out⟩
    | true =>
      by_cases h40 : 40 < n
      · have h40' : (40 : Int) < (n : Int) := by omega
        go_wp2_with fail
        refine (HAW.out _ HB4.out).mono ?_
        rintro e w5 ⟨rfl, hb5⟩
        have HB5 := Lib.hid (HB4.out.trans (hb5.mono HB4.out.size))
        clear hb5
        go_wp2
        go_ret
        exact ⟨rfl, HB5.out⟩
      · have h40' : ¬ (40 : Int) < (n : Int) := by omega
        have hse : segErr ds = 0 := by unfold segErr; rw [if_neg (by have := HN.out; omega), hfo]; rfl
        have HSE := Lib.hid hse
        have HFT := Lib.hid (show ∀ d ∈ ds, Fits d from fun d hd => fits_of ((segErr_ok hse).2 d hd) (HTM.out d hd))
        have HFW := Lib.hid (segBytes_few (ds := ds) (by have := HN.out; omega) HFT.out)
        have HOB := Lib.hid (M.segOpen_bytes ds hse HTM.out)
        have HBU := Lib.hid (build_any A n c ds w4 (H.out.on HB4.out) HTM.out (HT.out.below HB4.out))
        clear hfo hse HAW
        go_wp2_with fail
        refine HBU.out.mono ?_
        rintro e w5 ⟨hb5, hcase⟩
        obtain ⟨v5, rfl, hO5⟩ := hcase.elim (fun h => h.2) (fun h => absurd HSE.out h.1)
        have HBX5 := Lib.hid (HBX4.out.on hb5)
        have HB5 := Lib.hid (HB4.out.trans (hb5.mono HB4.out.size))
        obtain ⟨A5, c5, hv5, hr5⟩ := hO5.open_
        subst hv5
        have HOP := Lib.hid (open_any A5 _ c5 (M.segBytes ds) w5 hr5 HFW.out (HT.out.below HB5.out))
        rw [HOB.out] at HOP
        clear hb5 hcase hO5 hr5 HBU HBX4
        generalize (M.segBytes ds).length = n5 at *
        go_wp2_with fail
        refine HOP.out.mono ?_
        rintro e w6 ⟨v6, rfl, hb6, -, hg⟩
        obtain ⟨g, rfl, hsg⟩ := hg rfl
        have HBX6 := Lib.hid (HBX5.out.on hb6)
        have HB6 := Lib.hid (HB5.out.trans (hb6.mono HB5.out.size))
        have HSG := Lib.hid hsg
        clear hb6 hg hsg HOP HBX5
        have HDL := Lib.hid (show ds.length ≤ 4096 by have := HN.out; omega)
        have HTX := Lib.hid (show ∀ d ∈ ds, d.text.length ≤ 512 from fun d hd => (HFT.out d hd).2.1)
        have HF1 := Lib.hid (HFI.out g _ w6 HB6.out HSG.out HDL.out HTX.out)
        obtain ⟨x0, x1, x2, x3⟩ := HBX6.out.cells
        go_wp2_with fail
        refine HF1.out.mono ?_
        rintro e w7 ⟨v7, rfl, hO7, hb7⟩
        obtain ⟨A7, c7, hv7, hc7, hm7⟩ := hO7.form
        subst hv7
        rw [ints_len] at hc7 ⊢
        have HR7 := Lib.hid (OwnV.rd hO7)
        rw [ints_len] at HR7
        have HBX7 := Lib.hid (HBX6.out.on hb7)
        have HB7 := Lib.hid (HB6.out.trans (hb7.mono HB6.out.size))
        have HSG7 := Lib.hid (HSG.out.on hb7)
        clear x0 x1 x2 x3 hb7 hO7 HF1 HBX6 HFI
        obtain ⟨x0, x1, x2, x3⟩ := HBX7.out.cells
        obtain ⟨w8, hw8⟩ : ∃ w8, w8 = w7.alloc (.cells #[.int .u8 K, .string ⟨t.toArray⟩, .int .i64 z, .slice Aq nq cq] 39) := ⟨_, rfl⟩
        have hb8 : Below w7.heap.size w7 w8 := by rw [hw8]; exact (Below.refl _ _).alloc (Nat.le_refl _) _
        have HB8 := Lib.hid (HB7.out.trans (hb8.mono HB7.out.size))
        have HR8 := Lib.hid (HR7.out.below hb8)
        obtain ⟨gn, hgn⟩ : ∃ gn, w7.heap.size = gn := ⟨_, rfl⟩
        have hcell8 : w8.heap[gn]? = some (.cells #[.int .u8 K, .string ⟨t.toArray⟩, .int .i64 z, .slice Aq nq cq] 39 (0, 0)) := by rw [hw8, ← hgn]; exact heap_alloc_new _ _
        have HF2 := Lib.hid (segFind_any g _ ds (.mk 5 [] 0 (some ⟨gn, 0, none⟩) 1 1 [.mk k t z Aq nq cq ks]) w8 (HSG7.out.on hb8) (HT.out.below HB8.out) HDL.out HTX.out (ok1 (by omega) (by rw [← HKK.out] at hcell8; exact hcell8) ((HQ.out.on HB8.out).more HB8.out.size)) (.mk (by simp) (fun x hx => by simp at hx; subst hx; exact HQS.out)))
        unfold Q.val at HF2
        simp only at HF2
        have HW8 := Lib.hid hw8
        have HSUM := Lib.hid (finds_sum ds (.mk k t z Aq nq cq ks) gn)
        have HM1 := Lib.hid (fun i hi => mem_finds ds (.mk k t z Aq nq cq ks) i hi)
        have HM2 := Lib.hid (fun i hi => (mem_finds ds (.mk 5 [] 0 (some ⟨gn, 0, none⟩) 1 1 [.mk k t z Aq nq cq ks]) i hi).trans (finds_not ds _ gn i))
        have HGN := Lib.hid hgn
        generalize finds ds (.mk k t z Aq nq cq ks) = fa at *
        generalize finds ds (.mk 5 [] 0 (some ⟨gn, 0, none⟩) 1 1 [.mk k t z Aq nq cq ks]) = fb at *
        generalize hasAt ds (.mk k t z Aq nq cq ks) = P at *
        clear hb8 hcell8 hw8 hgn HSG HSG7 HBX7
        go_wp2_with fail
        rw [← HW8.out, HGN.out]
        refine HF2.out.mono ?_
        rintro e w9 ⟨v9, rfl, hO9, hb9⟩
        obtain ⟨A9, c9, hv9, hc9, hm9⟩ := hO9.form
        subst hv9
        rw [ints_len] at hc9 ⊢
        have HRb := Lib.hid (OwnV.rd hO9)
        rw [ints_len] at HRb
        have HRa := Lib.hid ((HR8.out.more (by rw [HW8.out]; simp : w7.heap.size ≤ w8.heap.size)).below hb9)
        have HB9 := Lib.hid (HB8.out.trans (hb9.mono HB8.out.size))
        have HB98 := Lib.hid hb9.size
        have hsum : fa.length + fb.length = n := by have := HSUM.out; have := HN.out; omega
        clear hO9 hb9 HF2 HW8 HR7 HR8
        obtain ⟨na, hna⟩ : ∃ na, fa.length = na := ⟨_, rfl⟩
        obtain ⟨nb, hnb⟩ : ∃ nb, fb.length = nb := ⟨_, rfl⟩
        rw [hna, hnb] at hsum
        rw [hna] at HRa hc7 ⊢
        rw [hnb] at HRb hc9 ⊢
        have hsi : IntKind.i64.wrap ((na : Int) + (nb : Int)) = (n : Int) := by
          rw [show (na : Int) + (nb : Int) = (n : Int) by omega]
          exact IntWalk.i64_in _ (by omega)
        clear hna hnb HSUM x0 x1 x2 x3
        go_wp2
        go_loopw [11] (fun p wr => ∃ i : Nat, p = .int .i64 i ∧ i ≤ n ∧ Hid (Below w9.heap.size w9 wr)) (fun p _ => n - (intOf p).toNat)
        case atStart => exact ⟨0, rfl, Nat.zero_le _, Lib.hid (Below.refl _ _)⟩
        case round =>
          obtain ⟨i, rfl, hi, HBr⟩ := hrel
          rename World => wr
          by_cases hlt : i < n
          · have hil : (i : Int) < (n : Int) := by omega
            have HI1 := Lib.hid (fun (W : World) (hW : Below w9.heap.size w9 W) => in_any A7 na c7 w8.heap.size fa (i : Int) W (HRa.out.below (hW.mono HB98.out)))
            have HI2 := Lib.hid (fun (W : World) (hW : Below w9.heap.size w9 W) => in_any A9 nb c9 w9.heap.size fb (i : Int) W (HRb.out.below hW))
            rw [HM1.out i (by have := HN.out; omega)] at HI1
            rw [HM2.out i (by have := HN.out; omega)] at HI2
            generalize P (i : Int) = bo at *
            go_wp2_with fail
            refine (HI1.out _ HBr.out).mono ?_
            rintro e wa ⟨rfl, hba⟩
            have HBa := Lib.hid (HBr.out.trans (hba.mono HBr.out.size))
            clear hba
            go_wp2_with fail
            refine (HI2.out _ HBa.out).mono ?_
            rintro e wb ⟨rfl, hbb⟩
            have HBb := Lib.hid (HBa.out.trans (hbb.mono HBa.out.size))
            clear hbb
            cases bo
            · go_wp2
              go_roundw
              case rel => exact ⟨i + 1, by go_num, by omega, HBb⟩
              case measure => simp [intOf]; omega
            · go_wp2
              go_roundw
              case rel => exact ⟨i + 1, by go_num, by omega, HBb⟩
              case measure => simp [intOf]; omega
          · go_wp2
            go_ret
            exact ⟨rfl, HB9.out.trans (HBr.out.mono HB9.out.size)⟩
end Go.Proofs.YthhgelaifapmmaaDoor
